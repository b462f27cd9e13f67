"""Whether terms fit a book, and their parameters."""

from aliasparams.misfits import check_term, misfit_of_term, parameters_of


def misfit(book, term):
    """None, or the number and the misfit of the first node that has one."""
    return misfit_of_term(book.facts, term)


def parameters(book, term):
    """The tuple of the parameters of a fitting term, as they first occur."""
    check_term(book.facts, term)
    return parameters_of(book.facts, term)
