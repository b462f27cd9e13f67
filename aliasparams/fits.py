"""Whether terms fit a book, and their parameters."""

from aliasparams.errors import NoTerm
from aliasparams.misfits import first_misfit, parameters_of
from aliasparams.terms import is_term


def misfit(book, term):
    """None, or the number and the misfit of the first node that has one."""
    if not is_term(term):
        raise NoTerm(-1, "form")
    return first_misfit(book.facts, term)


def parameters(book, term):
    """The tuple of the parameters of a fitting term, as they first occur."""
    found = misfit(book, term)
    if found is not None:
        raise NoTerm(found[0], found[1])
    return parameters_of(book.facts, term)
