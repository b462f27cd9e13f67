"""Terms compared with results that a substitution may have."""

from aliasparams.errors import TooLarge
from aliasparams.heads import keeps_bound
from aliasparams.misfits import parameters_of
from aliasparams.parts import laid_out, name_in, parts_of
from aliasparams.replacing import replaced
from aliasparams.terms import equal


def is_solvable_term(facts, term):
    """Whether a fitting term is solvable."""
    parts = _parts_outside_unions(term)
    names = [name_in(part) for part in parts]
    if not all([name in names for name in parameters_of(facts, term)]):
        return False
    return all([len(_open_places(part)) < 2 for part in parts])


def solution_of(facts, term, result):
    """The solution of a solvable term for a term, None if there is none."""
    found = _bindings(facts, term, result)
    for name, value in found.items():
        bound = facts.by_name[name][3]
        if bound is not None and not keeps_bound(facts, laid_out(value), bound):
            return None
    return found if _has_result(term, found, result) else None


def _has_result(term, mapping, result):
    """Whether a substitution has this result."""
    try:
        return equal(replaced(term, mapping), result)
    except TooLarge:
        return False


def _parts_outside_unions(term):
    """The list of the parts of a term that stand in no union, unions themselves too."""
    found = []
    waiting = [term]
    while waiting:
        part = waiting.pop()
        found.append(part)
        if part[0] != "|":
            waiting.extend(parts_of(part))
    return found


def _open_places(part):
    """The places of the parts of a row or of inputs that may be replaced by any
    number of items; [] for other parts."""
    if part[0] not in ("[]", "()"):
        return []
    inner = parts_of(part)
    return [at for at in range(len(inner)) if inner[at][0] in ("*", "**") and name_in(inner[at]) is not None]


def _bindings(facts, term, result):
    """The values of the parameters outside of unions, as the parts of a result at
    their places tell them.

    Where term and result are not alike, they are so with no values: what is told
    behind that place does not matter, as the whole is compared afterwards.
    """
    found = {}
    waiting = [(term, result)]
    while waiting:
        part, given = waiting.pop()
        if part[0] in ("[]", "()"):
            waiting.extend(_paired_items(part, given, found))
        elif part[0] in facts.by_name and facts.by_name[part[0]][0] == "parameter":
            if given[0] not in ("*", "..."):
                found.setdefault(part[0], given)
        elif part[0] == given[0] and part[0] != "|":
            waiting.extend(list(zip(parts_of(part), parts_of(given))))
    return found


def _paired_items(part, given, found):
    """The items of a row or of inputs, each with one of the given part; what takes
    the place of an open one is put into what is found."""
    items = part[1]
    open_places = _open_places(part)
    if not open_places:
        return list(zip(items, given[1]))
    at = open_places[0]
    if at == len(items):
        found.setdefault(part[2], ("()", given[1][at:], given[2]))
        return list(zip(items, given[1]))
    end = max(at, at + 1 + len(given[1]) - len(items))
    found.setdefault(items[at][1], ("[]", given[1][at:end]))
    return list(zip(items[:at], given[1])) + list(zip(items[at + 1:], given[1][end:]))
