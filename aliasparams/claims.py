"""Claims about books."""

from aliasparams.entries import is_bound
from aliasparams.errors import NoClaim
from aliasparams.forms import TERMS, layout_of
from aliasparams.misfits import first_misfit
from aliasparams.pairs import are_of_one_shape, is_alias, is_small


def check_claim(facts, value):
    """Raises NoClaim if any value is not a claim."""
    if not isinstance(value, tuple) or len(value) != 3:
        raise NoClaim(value)
    if value[0] in ("within", "outside"):
        is_claim = _are_term_and_bound(facts, value[1], value[2])
    else:
        is_claim = value[0] in ("parted", "alike") and _are_aliases(facts, value[1], value[2])
    if not is_claim:
        raise NoClaim(value)


def _are_term_and_bound(facts, term, bound):
    layout = layout_of(term, TERMS)
    return layout is not None and first_misfit(facts, layout) is None and is_bound(facts, bound)


def _are_aliases(facts, one, other):
    """Whether any values are the names of two aliases of the same shape with small bodies."""
    if not is_alias(facts, one) or not is_alias(facts, other):
        return False
    return are_of_one_shape(facts, one, other) and is_small(facts, one) and is_small(facts, other)
