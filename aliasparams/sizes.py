"""Sizes that terms would have, worked out without making these terms."""

from aliasparams.parts import is_term_part, name_in


def unjoined_size(weights, layout, sizes):
    """The size of a part after an expansion and a substitution, nothing joined.

    Weights hold the weight of each alias that is expanded, sizes the size of
    the value of each parameter that is substituted.
    """
    return _unjoined_sizes(weights, layout, sizes)[0]


def largest_full_size(weights, layout):
    """The largest full size of a term and of the terms in it.

    One of those may be larger than the whole: an alias may leave out a value.
    """
    sizes = _unjoined_sizes(weights, layout, {})
    return max([size for part, size in zip(layout[0], sizes) if is_term_part(part)])


def weight_of(weights, parameters, layout):
    """The weight of an alias, from its body: how many nodes of the expanded body
    stand for no parameter, and how often each parameter stands in it."""
    absent = {name: 0 for name in parameters}
    own = unjoined_size(weights, layout, absent)
    times = [unjoined_size(weights, layout, {**absent, name: 1}) - own for name in parameters]
    return own, tuple(times)


def _unjoined_sizes(weights, layout, sizes):
    """The list of the unjoined sizes of all parts of a layout."""
    parts, starts = layout
    found = [0] * len(parts)
    for at in reversed(range(len(parts))):
        inner = found[starts[at]:starts[at + 1]]
        head = parts[at][0]
        if head in weights:
            own, times = weights[head]
            found[at] = own + sum([many * size for many, size in zip(times, inner)])
        elif head in ("[]", "()"):
            found[at] = sum(inner)
        elif inner:
            found[at] = 1 + sum(inner)
        else:
            found[at] = sizes.get(name_in(parts[at]), 1)
    return found
