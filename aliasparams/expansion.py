"""Terms whose aliases are expanded."""

from aliasparams.expanding import expanded_note
from aliasparams.misfits import check_term
from aliasparams.sizes import unjoined_size


def expanded(book, term):
    """The expanded term. Raises NoTerm, TooLarge."""
    layout = check_term(book.facts, term)
    return expanded_note(book.facts, {}, layout)[0]


def full_size(book, term):
    """The size that the expanded term would have if no members were joined.

    Raises NoTerm.
    """
    layout = check_term(book.facts, term)
    return unjoined_size(book.facts.weights, layout, {})


def same(book, one, other):
    """Whether the expanded terms are equal. Raises NoTerm, TooLarge."""
    layouts = [check_term(book.facts, one), check_term(book.facts, other)]
    numbers = {}
    notes = [expanded_note(book.facts, numbers, layout) for layout in layouts]
    return notes[0][1] == notes[1][1]
