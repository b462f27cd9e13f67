"""Misfits of nodes, and the parameters of terms."""

from aliasparams.errors import NoTerm
from aliasparams.heads import keeps_bound
from aliasparams.parts import all_parts, folded, is_node, name_in, parts_of
from aliasparams.terms import is_term

# What a value for a parameter of each kind begins with; no other value does.
_BEGINNINGS = {"variadic": "[]", "signature": "()"}


def check_term(facts, value):
    """Raises NoTerm if any value is not a fitting term."""
    found = misfit_of_term(facts, value)
    if found is not None:
        raise NoTerm(found[0], found[1])


def misfit_of_term(facts, value):
    """The first misfit of a term. Raises NoTerm for any other value."""
    if not is_term(value):
        raise NoTerm(-1, "form")
    return first_misfit(facts, value)


def first_misfit(facts, value):
    """None, or the number and the misfit of the first node that has one.

    The value is a term, a row, inputs or an item.
    """
    return folded(value, lambda part, told: _checked(facts, part, told))[1]


def parameters_of(facts, value):
    """The tuple of the names of parameters in a fitting value, as they occur."""
    found = {}
    for part in all_parts(value):
        name = name_in(part)
        if name is not None and facts.by_name[name][0] == "parameter":
            found[name] = True
    return tuple(found)


def _checked(facts, part, told):
    """The number of nodes of a part and its first misfit, from those of its parts."""
    many = sum([inner[0] for inner in told]) + (1 if is_node(part) else 0)
    reason = _own_misfit(facts, part)
    if reason is not None:
        return many, (0, reason)
    return many, _inner_misfit(facts, part, told)


def _inner_misfit(facts, part, told):
    """The first misfit in the parts of a part that has none itself."""
    at = 1 if is_node(part) else 0
    bounds = _bounds(facts, part)
    for place, inner in enumerate(parts_of(part)):
        many, found = told[place]
        if found is not None:
            return at + found[0], found[1]
        bound = bounds[place] if bounds else None
        if bound is not None and not keeps_bound(facts, inner, bound):
            return at, "bound"
        at += many
    return None


def _bounds(facts, part):
    """The bounds of the parameters for the values of a use, [] for other parts."""
    return [entry[3] for entry in _parameter_entries(facts, part[0])]


def _parameter_entries(facts, name):
    """The entries of the parameters of a class or an alias, [] for other names."""
    entry = facts.by_name.get(name)
    if entry is None or entry[0] == "parameter":
        return []
    return [facts.by_name[inner] for inner in entry[2]]


def _own_misfit(facts, part):
    """The first misfit of a node, apart from a bound, or None."""
    name = name_in(part)
    if name is None:
        return None
    if name not in facts.by_name:
        return "unknown"
    if not _is_right_kind(part[0], facts.by_name[name]):
        return "kind"
    if part[0] in ("*", "**"):
        return None
    entries = _parameter_entries(facts, name)
    if len(part[1]) != len(entries):
        return "count"
    right = [_begins_right(value, entry[2]) for value, entry in zip(part[1], entries)]
    return None if all(right) else "value"


def _is_right_kind(head, entry):
    """Whether a node that begins so may have the name of an entry."""
    kind = entry[2] if entry[0] == "parameter" else ""
    if head == "*":
        return kind == "variadic"
    if head == "**":
        return kind == "signature"
    return kind in ("", "plain")


def _begins_right(value, kind):
    """Whether a value is a term, a row or inputs, as a parameter takes it."""
    if kind == "plain":
        return value[0] not in ("[]", "()")
    return value[0] == _BEGINNINGS[kind]
