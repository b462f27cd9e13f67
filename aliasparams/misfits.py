"""Misfits of nodes, and the parameters of terms."""

from aliasparams.errors import NoTerm
from aliasparams.forms import TERMS, layout_of
from aliasparams.heads import keeps_bound
from aliasparams.parts import all_parts, folded, is_node, name_in, parts_of

# What a value is for that begins so; every other value is for a plain parameter.
_KINDS = {"[]": "variadic", "()": "signature"}

# What a parameter is that an item or a tail may name.
_NAMED = {"*": "variadic", "**": "signature"}


def check_term(facts, value):
    """The layout of a fitting term. Raises NoTerm for any other value."""
    layout = layout_of(value, TERMS)
    found = (-1, "form") if layout is None else first_misfit(facts, layout)
    if found is not None:
        raise NoTerm(found[0], found[1])
    return layout


def misfit_of_term(facts, value):
    """The first misfit of a term. Raises NoTerm for any other value."""
    layout = layout_of(value, TERMS)
    if layout is None:
        raise NoTerm(-1, "form")
    return first_misfit(facts, layout)


def first_misfit(facts, layout):
    """None, or the number and the misfit of the first node that has one, of a
    term, a row, inputs or an item."""
    parts = layout[0]
    # Most values fit, and then no node needs a number.
    if all([_own_misfit(facts, part) is None for part in parts]):
        if all([_keeps_bounds(facts, part) for part in parts]):
            return None
    return folded(layout, lambda part, told: _checked(facts, part, told))[1]


def parameters_of(facts, value):
    """The tuple of the names of parameters in a fitting value, as they occur."""
    found = {}
    for part in all_parts(value):
        name = name_in(part)
        if name is not None and facts.by_name[name][0] == "parameter":
            found[name] = True
    return tuple(found)


def kind_of_value(value):
    """The kind of the parameters that take a term, a row or inputs."""
    return _KINDS.get(value[0], "plain")


def _checked(facts, part, told):
    """The number of nodes of a part and its first misfit, from those of its parts."""
    many = sum([inner[0] for inner in told]) + (1 if is_node(part) else 0)
    reason = _own_misfit(facts, part)
    if reason is not None:
        return many, (0, reason)
    return many, _inner_misfit(facts, part, told)


def _inner_misfit(facts, part, told):
    """The first misfit in the parts of a part that has none itself."""
    at = 1 if is_node(part) else 0
    entries = facts.takes.get(part[0])
    for place, inner in enumerate(parts_of(part)):
        many, found = told[place]
        if found is not None:
            return at + found[0], found[1]
        if entries is not None and not _suits_bound(facts, inner, entries[place]):
            return at, "bound"
        at += many
    return None


def _keeps_bounds(facts, part):
    """Whether the values of a part keep the bounds of the parameters for them."""
    entries = facts.takes.get(part[0], [])
    return all([_suits_bound(facts, value, entry) for value, entry in zip(part[1], entries)])


def _suits_bound(facts, value, entry):
    return entry[3] is None or keeps_bound(facts, value, entry[3])


def _own_misfit(facts, part):
    """The first misfit of a node, apart from a bound, or None."""
    head = part[0]
    if head in facts.takes:
        return _misfit_of_values(part[1], facts.takes[head])
    name = name_in(part)
    if name is None:
        return None
    if name not in facts.by_name:
        return "unknown"
    entry = facts.by_name[name]
    if entry[0] != "parameter" or entry[2] != _NAMED.get(head, "plain"):
        return "kind"
    return "count" if head == name and part[1] else None


def _misfit_of_values(values, entries):
    """The first misfit of a use of a class or an alias, from its parameters."""
    if len(values) != len(entries):
        return "count"
    for value, entry in zip(values, entries):
        if kind_of_value(value) != entry[2]:
            return "value"
    return None
