"""Bounds, the heads of terms that keep them, and the bases above uses of classes."""

from aliasparams.climbing import bases_of
from aliasparams.heads import heads_of, keeps_bound
from aliasparams.misfits import check_term


def heads(book, term):
    """The ascending list of the heads of a term. Raises NoTerm."""
    layout = check_term(book.facts, term)
    return heads_of(book.facts, layout)


def is_within(book, term, bound):
    """Whether a term is within a bound. Raises NoTerm."""
    layout = check_term(book.facts, term)
    return keeps_bound(book.facts, layout, bound)


def climb(book, term):
    """The list of the base of a use of a class, the base of this base, and so
    on, with the values substituted; [] for other terms. Raises NoTerm, TooLarge."""
    check_term(book.facts, term)
    entry = book.facts.by_name.get(term[0])
    if entry is None or entry[0] != "class":
        return []
    return bases_of(book.facts, term)
