"""Whether any value has the form of a term, a row, inputs or an item."""

from aliasparams.names import is_name
from aliasparams.numbering import has_equal_members
from aliasparams.parts import is_node

LIMIT = 150

# The form of a use is "use", that of any other part its first item.
TERMS = ("use", "->", "|")
VALUES = ("use", "->", "|", "[]", "()")
ARGUMENTS = ("use", "->", "|", "*", "...", "()")
_MEMBERS = ("use", "->")
_ITEMS = ("use", "->", "|", "*", "...")
_INPUTS = ("()",)
_TAILS = ("**",)
_LENGTHS = {"->": 3, "|": 2, "[]": 2, "()": 3, "*": 2, "**": 2, "...": 2}


def layout_of(value, forms):
    """The layout of any value that is a part of one of these forms, with at most
    150 nodes; None for any other value."""
    parts = []
    starts = [1]
    # Tuples of parts that wait, each with the forms that these may have.
    groups = [((value,), forms)]
    names = {}
    at = 0
    end = 1
    nodes = 0
    while at < len(groups):
        inner, allowed = groups[at]
        at += 1
        for part in inner:
            form = _form_of(part, names)
            if form not in allowed:
                return None
            parts.append(part)
            if form == "use":
                nodes += 1
                if part[1]:
                    groups.append((part[1], VALUES))
                    end += len(part[1])
            else:
                inside = _inside(form, part)
                if inside is None:
                    return None
                nodes += 1 if is_node(part) else 0
                groups.extend(inside)
                end += sum([len(group) for group, _ in inside])
            starts.append(end)
        # A value in which parts are shared may be far larger than it looks.
        if nodes > LIMIT:
            return None
    return None if has_equal_members((parts, starts)) else (parts, starts)


def has_form(value, forms):
    """Whether any value is a part of one of these forms, with at most 150 nodes."""
    return layout_of(value, forms) is not None


def _form_of(part, names):
    """The form that the first item, the length and the second item of any value
    tell, or None. Of the names it is noted that they are names."""
    if not isinstance(part, tuple) or len(part) < 2 or not isinstance(part[0], str):
        return None
    head = part[0]
    if head in _LENGTHS:
        return head if len(part) == _LENGTHS[head] else None
    if len(part) != 2 or not isinstance(part[1], tuple):
        return None
    if head not in names:
        names[head] = is_name(head)
    return "use" if names[head] else None


def _inside(form, part):
    """The parts directly in a part that is no use, as they wait; None if it has no
    such form."""
    if form == "->":
        return [(part[1:2], _INPUTS), (part[2:], TERMS)]
    if form == "...":
        return [(part[1:], TERMS)]
    if form == "**":
        return []
    if form == "*":
        return [] if is_name(part[1]) else None
    items = part[1]
    if not isinstance(items, tuple) or len(items) > LIMIT:
        return None
    if form == "|":
        return [(items, _MEMBERS)] if len(items) > 1 else None
    if form == "[]" or part[2] is None:
        return [(items, _ITEMS)]
    if part[2] != "..." and not is_name(part[2]):
        return None
    return [(items, _ITEMS), ((("**", part[2]),), _TAILS)]
