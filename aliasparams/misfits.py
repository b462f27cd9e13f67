"""Misfits of nodes, and the parameters of terms."""

from aliasparams.errors import NoTerm
from aliasparams.forms import TERMS, layout_of
from aliasparams.heads import are_within, heads_from
from aliasparams.parts import all_parts, folded, is_node, name_in

# What a value is for that begins so; every other value is for a plain parameter.
_KINDS = {"[]": "variadic", "()": "signature"}

# What a parameter is that an item or a tail may name.
_NAMED = {"*": "variadic", "**": "signature"}


def check_term(facts, value):
    """The layout of a fitting term. Raises NoTerm for any other value."""
    layout = layout_of(value, TERMS)
    found = (-1, "form") if layout is None else first_misfit(facts, layout)
    if found is not None:
        raise NoTerm(found[0], found[1])
    return layout


def misfit_of_term(facts, value):
    """The first misfit of a term. Raises NoTerm for any other value."""
    layout = layout_of(value, TERMS)
    if layout is None:
        raise NoTerm(-1, "form")
    return first_misfit(facts, layout)


def first_misfit(facts, layout):
    """None, or the number and the misfit of the first node that has one, of a
    term, a row, inputs or an item that is laid out."""
    # Most values fit, and then no node needs a number.
    if _fits(facts, layout):
        return None
    return folded(layout, lambda part, told: _checked(facts, part, told))[1]


def parameters_of(facts, value):
    """The tuple of the names of parameters in a fitting value, as they occur."""
    found = {}
    for part in all_parts(value):
        name = name_in(part)
        if name is not None and facts.by_name[name][0] == "parameter":
            found[name] = True
    return tuple(found)


def kind_of_value(value):
    """The kind of the parameters that take a term, a row or inputs."""
    return _KINDS.get(value[0], "plain")


def _fits(facts, layout):
    """Whether no part of a value that is laid out has a misfit."""
    for part in layout[0]:
        if _own_misfit(facts, part) is not None:
            return False
    if not any([part[0] in facts.bounded for part in layout[0]]):
        return True
    parts, starts = layout
    heads = [()] * len(parts)
    for at in reversed(range(len(parts))):
        inner = heads[starts[at]:starts[at + 1]]
        if _place_outside(facts, parts[at], inner) is not None:
            return False
        heads[at] = heads_from(facts, parts[at], inner)
    return True


def _place_outside(facts, part, heads):
    """The place of the first value of a part that is not within the bound of its
    parameter, from the heads of the parts in it; or None."""
    if part[0] in facts.bounded:
        for place, entry in enumerate(facts.takes[part[0]]):
            if entry[3] is not None and not are_within(facts, heads[place], entry[3]):
                return place
    return None


def _checked(facts, part, told):
    """The number of nodes of a part, its first misfit, and its heads if it has
    none, from those of its parts."""
    own = 1 if is_node(part) else 0
    many = own + sum([inner[0] for inner in told])
    reason = _own_misfit(facts, part)
    if reason is not None:
        return many, (0, reason), ()
    outside = _place_outside(facts, part, [inner[2] for inner in told])
    at = own
    for place, (nodes, found, _) in enumerate(told):
        if found is not None:
            return many, (at + found[0], found[1]), ()
        if place == outside:
            return many, (at, "bound"), ()
        at += nodes
    return many, None, heads_from(facts, part, [inner[2] for inner in told])


def _own_misfit(facts, part):
    """The first misfit of a node, apart from a bound, or None."""
    head = part[0]
    if head in facts.taken_kinds:
        values, kinds = part[1], facts.taken_kinds[head]
        if len(values) != len(kinds):
            return "count"
        return None if [_KINDS.get(value[0], "plain") for value in values] == kinds else "value"
    name = name_in(part)
    if name is None:
        return None
    if name not in facts.by_name:
        return "unknown"
    entry = facts.by_name[name]
    if entry[0] != "parameter" or entry[2] != _NAMED.get(head, "plain"):
        return "kind"
    return "count" if head == name and part[1] else None
