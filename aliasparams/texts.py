"""Terms as texts, and texts read as terms."""

from aliasparams.errors import NoText
from aliasparams.forms import ARGUMENTS, TERMS, layout_of
from aliasparams.misfits import first_misfit
from aliasparams.parsing import parsed
from aliasparams.parts import laid_out
from aliasparams.writing import written


def show(term):
    """The text of a term."""
    return written(laid_out(term))


def read(book, text):
    """The fitting term with this text. Raises NoText for any other value."""
    return _read_as(book, text, TERMS)


def read_argument(book, text):
    """The fitting term, item or inputs with this text. Raises NoText for any
    other value."""
    return _read_as(book, text, ARGUMENTS)


def _read_as(book, text, forms):
    if not isinstance(text, str):
        raise NoText(text)
    found = parsed(book.facts, text)
    layout = layout_of(found, forms)
    if layout is None or first_misfit(book.facts, layout) is not None or written(layout) != text:
        raise NoText(text)
    return found
