"""Terms as texts, and texts read as terms."""

from aliasparams.errors import NoText
from aliasparams.forms import TERMS, has_form
from aliasparams.misfits import first_misfit
from aliasparams.parsing import parsed
from aliasparams.writing import written

_ARGUMENTS = ("use", "->", "|", "*", "...", "()")


def show(term):
    """The text of a term."""
    return written(term)


def read(book, text):
    """The fitting term with this text. Raises NoText for any other value."""
    return _read_as(book, text, TERMS)


def read_argument(book, text):
    """The fitting term, item or inputs with this text. Raises NoText for any
    other value."""
    return _read_as(book, text, _ARGUMENTS)


def _read_as(book, text, forms):
    if not isinstance(text, str):
        raise NoText(text)
    found = parsed(book.facts, text)
    fits = has_form(found, forms) and first_misfit(book.facts, found) is None
    if not fits or written(found) != text:
        raise NoText(text)
    return found
