"""Parameters replaced by values."""

from aliasparams.errors import TooLarge
from aliasparams.forms import LIMIT
from aliasparams.noting import noted
from aliasparams.parts import laid_out
from aliasparams.sizes import unjoined_size
from aliasparams.terms import size


def replaced(value, mapping):
    """A term, a row or inputs, its parameters substituted by the mapping.

    The values suit their parameters. Raises TooLarge.
    """
    layout = laid_out(value)
    sizes = {name: size(mapping[name]) for name in mapping}
    if unjoined_size({}, layout, sizes) > LIMIT:
        raise TooLarge(LIMIT)
    numbers = {}
    notes = {name: noted(numbers, laid_out(mapping[name]), {}) for name in mapping}
    return noted(numbers, layout, notes)[0]
