"""What a text may stand for.

A text that is not right is read as a value that has no form, or does not fit,
or has another text: what is left over here is missing when it is written again.
So who calls finds out, and nothing is checked twice.

Nothing here calls itself: brackets may be nested deeper than Python allows
calls to be.
"""

from aliasparams.names import is_name
from aliasparams.tokens import tokens_of

_OPENINGS = ("(", "[")
_CLOSINGS = {")": "(", "]": "["}

# No part, nor the beginning of one.
_WRONG = ("",)


def parsed(facts, text):
    """The term, item or inputs that a text may stand for, or another value."""
    # Of each open bracket: itself, the parts before the last comma in it, and
    # the pieces behind that. A piece is a token, or a bracket with its parts.
    levels = [("", [], [])]
    for token in tokens_of(text):
        opening, parts, pieces = levels[-1]
        if token in _OPENINGS:
            levels.append((token, [], []))
        elif token in _CLOSINGS:
            if opening != _CLOSINGS[token]:
                return _WRONG
            levels.pop()
            levels[-1][2].append((opening, _closed_parts(facts, parts, pieces)))
        elif token == ", ":
            parts.append(_part(facts, pieces))
            pieces.clear()
        else:
            pieces.append(token)
    return _part(facts, levels[-1][2])


def _closed_parts(facts, parts, pieces):
    """The parts in a bracket that is closed."""
    return [*parts, _part(facts, pieces)] if parts or pieces else []


def _part(facts, pieces):
    """What pieces without a comma between them stand for: a term, an item,
    inputs as a value, or a tail, written ("**", tail)."""
    if _is_use(pieces):
        return _use(facts, pieces)
    if pieces == ["..."]:
        return ("**", "...")
    if len(pieces) == 2 and pieces[0] in ("*", "**"):
        return (pieces[0], pieces[1])
    if len(pieces) == 1 and _is_bracket(pieces[0], "["):
        return _inputs(pieces[0][1])
    if pieces and pieces[-1] == "...":
        return ("...", _term(facts, pieces[:-1]))
    return _term(facts, pieces)


def _term(facts, pieces):
    at = 0
    while pieces[at + 1:at + 2] == [" -> "] and _is_bracket(pieces[at], "("):
        at += 2
    term = _union(facts, pieces[at:])
    for given in reversed(pieces[:at:2]):
        term = ("->", _inputs(given[1]), term)
    return term


def _union(facts, pieces):
    """The term of pieces with no signature among them but in parentheses."""
    members = [[]]
    for piece in pieces:
        if piece == " | ":
            members.append([])
        else:
            members[-1].append(piece)
    terms = [_member(facts, member) for member in members]
    return terms[0] if len(terms) == 1 else ("|", tuple(terms))


def _member(facts, pieces):
    if _is_use(pieces):
        return _use(facts, pieces)
    if len(pieces) == 1 and _is_bracket(pieces[0], "(") and len(pieces[0][1]) == 1:
        return pieces[0][1][0]
    return _WRONG


def _is_use(pieces):
    """Whether pieces are a name, or a name and a bracket with values."""
    if len(pieces) != 1 and (len(pieces) != 2 or not _is_bracket(pieces[1], "[")):
        return False
    return is_name(pieces[0])


def _use(facts, pieces):
    """The use that pieces stand for, with the row that its book tells."""
    if len(pieces) == 1:
        return (pieces[0], ())
    name, parts = pieces[0], pieces[1][1]
    kinds = facts.taken_kinds.get(name, [])
    if "variadic" not in kinds or len(parts) < len(kinds) - 1:
        return (name, tuple(parts))
    start = kinds.index("variadic")
    end = start + len(parts) - (len(kinds) - 1)
    return (name, (*parts[:start], ("[]", tuple(parts[start:end])), *parts[end:]))


def _inputs(parts):
    if parts and parts[-1][0] == "**":
        return ("()", tuple(parts[:-1]), parts[-1][1])
    return ("()", tuple(parts), None)


def _is_bracket(piece, opening):
    return isinstance(piece, tuple) and piece[0] == opening
