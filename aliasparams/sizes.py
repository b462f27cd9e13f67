"""Sizes that terms would have, worked out without making these terms."""

from aliasparams.parts import folded, is_node, is_term_part, name_in


def unjoined_size(weights, value, sizes):
    """The size of a value after an expansion and a substitution, nothing joined.

    Weights hold the weight of each alias that is expanded, sizes the size of
    the value of each parameter that is substituted.
    """
    return folded(value, lambda part, inner: _weighed(weights, part, inner, sizes))


def largest_full_size(weights, term):
    """The largest full size of a term and of the terms in it.

    One of those may be larger than the whole: an alias may leave out a value.
    """
    return folded(term, lambda part, inner: _size_and_largest(weights, part, inner))[1]


def weight_of(weights, parameters, body):
    """The weight of an alias: how many nodes of the expanded body stand for no
    parameter, and how often each parameter stands in it."""
    absent = {name: 0 for name in parameters}
    own = unjoined_size(weights, body, absent)
    times = [unjoined_size(weights, body, {**absent, name: 1}) - own for name in parameters]
    return own, tuple(times)


def _size_and_largest(weights, part, inner):
    """The full size of a part, and the largest one of the terms in it, from
    those of its parts."""
    own = _weighed(weights, part, [pair[0] for pair in inner], {})
    largest = max([0, *[pair[1] for pair in inner]])
    return own, max(own, largest) if is_term_part(part) else largest


def _weighed(weights, part, inner, sizes):
    name = name_in(part)
    if name in weights:
        own, times = weights[name]
        return own + sum([many * size for many, size in zip(times, inner)])
    if name in sizes:
        return sizes[name]
    return sum(inner) + (1 if is_node(part) else 0)
