"""Terms: uses of names, signatures and unions."""

from aliasparams.forms import TERMS, has_form
from aliasparams.noting import joined_notes, noted
from aliasparams.numbering import numbered
from aliasparams.parts import all_parts, folded, is_node, laid_out
from aliasparams.spelling import spelled


def is_term(value):
    """Whether any value is a term."""
    return has_form(value, TERMS)


def size(term):
    """The number of nodes of a term, also of a row or of inputs."""
    return len([part for part in all_parts(term) if is_node(part)])


def equal(one, other):
    """Whether two terms differ at most in the order of members of unions."""
    numbers = {}
    return numbered(numbers, laid_out(one))[0] == numbered(numbers, laid_out(other))[0]


def key(term):
    """A string that two terms share exactly if they are equal."""
    return folded(laid_out(term), spelled)


def joined(*terms):
    """The term with the members of all terms, each one once."""
    numbers = {}
    return joined_notes(numbers, [noted(numbers, laid_out(term), {}) for term in terms])[0]


def origin(term):
    """The name of a use, otherwise the first item of a term."""
    return term[0]


def arguments(term):
    """The values of a use, the inputs and the result, or the members."""
    return term[1:] if term[0] == "->" else term[1]


def made(origin, arguments):
    """The term with this origin and these arguments."""
    return ("->", *arguments) if origin == "->" else (origin, arguments)
