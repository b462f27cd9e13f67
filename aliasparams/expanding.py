"""Aliases replaced by their bodies."""

from aliasparams.errors import TooLarge
from aliasparams.forms import LIMIT
from aliasparams.noting import noted_expansion
from aliasparams.sizes import largest_full_size


def expanded_note(facts, numbers, layout):
    """The note of a fitting term that is laid out, its aliases expanded. Raises
    TooLarge."""
    if largest_full_size(facts.weights, layout) > LIMIT:
        raise TooLarge(LIMIT)
    return noted_expansion(numbers, facts.bodies, layout)
