"""Parameters replaced by values."""

from aliasparams.errors import TooLarge
from aliasparams.forms import LIMIT
from aliasparams.parts import folded, parts_of
from aliasparams.sizes import unjoined_size
from aliasparams.terms import joined, size


def replaced(value, mapping):
    """A term, a row or inputs, its parameters substituted by the mapping.

    The values suit their parameters. Raises TooLarge.
    """
    sizes = {name: size(mapping[name]) for name in mapping}
    if unjoined_size({}, value, sizes) > LIMIT:
        raise TooLarge(LIMIT)
    return folded(value, lambda part, results: rebuilt(part, results, mapping))


def rebuilt(part, results, mapping):
    """A part with the results for its parts; for an item ("*", name) or a tail
    the items and the tail that take its place."""
    head = part[0]
    if head == "*":
        return (mapping[part[1]][1], None) if part[1] in mapping else ((part,), None)
    if head == "**":
        return mapping[part[1]][1:] if part[1] in mapping else ((), part[1])
    if head == "|":
        return joined(*results)
    if head in ("[]", "()"):
        items, tail = _gathered(parts_of(part), results)
        return ("[]", items) if head == "[]" else ("()", items, tail)
    if head in ("->", "..."):
        return (head, *results)
    return mapping[head] if head in mapping else (head, tuple(results))


def _gathered(parts, results):
    """The items and the tail of a row or of inputs."""
    items = []
    tail = None
    for part, result in zip(parts, results):
        if part[0] in ("*", "**"):
            items.extend(result[0])
            tail = result[1]
        else:
            items.append(result)
    return tuple(items), tail
