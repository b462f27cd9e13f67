"""Terms whose aliases are expanded."""

from aliasparams.expanding import expanded_term
from aliasparams.misfits import check_term
from aliasparams.sizes import unjoined_size
from aliasparams.terms import equal


def expanded(book, term):
    """The expanded term. Raises NoTerm, TooLarge."""
    check_term(book.facts, term)
    return expanded_term(book.facts, term)


def full_size(book, term):
    """The size that the expanded term would have if no members were joined.

    Raises NoTerm.
    """
    check_term(book.facts, term)
    return unjoined_size(book.facts.weights, term, {})


def same(book, one, other):
    """Whether the expanded terms are equal. Raises NoTerm, TooLarge."""
    check_term(book.facts, one)
    check_term(book.facts, other)
    return equal(expanded_term(book.facts, one), expanded_term(book.facts, other))
