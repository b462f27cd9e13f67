"""Terms compared with results that a substitution may have."""

from aliasparams.errors import TooLarge
from aliasparams.heads import keeps_bound
from aliasparams.misfits import parameters_of
from aliasparams.parts import laid_out, name_in, parts_of
from aliasparams.replacing import replaced
from aliasparams.terms import equal


def is_solvable_term(facts, term):
    """Whether a fitting term is solvable."""
    parts = _parts_outside_unions(term)
    names = [name_in(part) for part in parts]
    if not all([name in names for name in parameters_of(facts, term)]):
        return False
    return all([len(_open_places(part)) < 2 for part in parts])


def solution_of(facts, term, result):
    """The solution of a solvable term for a term, None if there is none."""
    found = _bindings(facts, term, result)
    if found is None:
        return None
    for name, value in found.items():
        bound = facts.by_name[name][3]
        if bound is not None and not keeps_bound(facts, laid_out(value), bound):
            return None
    return found if _has_result(term, found, result) else None


def _has_result(term, mapping, result):
    """Whether a substitution has this result; what is in unions is told only by it."""
    try:
        return equal(replaced(term, mapping), result)
    except TooLarge:
        return False


def _parts_outside_unions(term):
    """The list of the parts of a term that stand in no union, unions themselves too."""
    found = []
    waiting = [term]
    while waiting:
        part = waiting.pop()
        found.append(part)
        if part[0] != "|":
            waiting.extend(parts_of(part))
    return found


def _open_places(part):
    """The places of the parts of a row or of inputs that may be replaced by any
    number of items; [] for other parts."""
    if part[0] not in ("[]", "()"):
        return []
    inner = parts_of(part)
    return [at for at in range(len(inner)) if inner[at][0] in ("*", "**") and name_in(inner[at]) is not None]


def _bindings(facts, term, result):
    """The values of the parameters outside of unions, as the parts of a result at
    their places tell them; None if one can be told to be no result."""
    found = {}
    waiting = [(term, result)]
    while waiting:
        part, given = waiting.pop()
        if part[0] == "|":
            continue
        if part[0] in ("[]", "()"):
            pairs = _paired_items(part, given, found)
        else:
            pairs = _paired_parts(facts, part, given, found)
        if pairs is None:
            return None
        waiting.extend(pairs)
    return found


def _paired_parts(facts, part, given, found):
    """The parts in a part, each with the one in the given part; a parameter is
    put into what is found. None if the given part is no result of this part."""
    entry = facts.by_name.get(part[0])
    if entry is not None and entry[0] == "parameter":
        if given[0] in ("*", "..."):
            return None
        found.setdefault(part[0], given)
        return []
    if part[0] != given[0]:
        return None
    return list(zip(parts_of(part), parts_of(given)))


def _paired_items(part, given, found):
    """The same for rows and for inputs."""
    open_places = _open_places(part)
    items = part[1]
    more = len(given[1]) - len(items)
    if not open_places:
        if more != 0 or part[2:] != given[2:]:
            return None
        return list(zip(items, given[1]))
    at = open_places[0]
    if at == len(items):
        if more < 0:
            return None
        found.setdefault(part[2], ("()", given[1][at:], given[2]))
        return list(zip(items, given[1]))
    if more < -1 or part[2:] != given[2:]:
        return None
    end = at + more + 1
    found.setdefault(items[at][1], ("[]", given[1][at:end]))
    return list(zip(items[:at], given[1])) + list(zip(items[at + 1:], given[1][end:]))
