"""Kept results of applied, those of the last different calls."""

from aliasparams.errors import NoArgument, NoTerm, TooLarge, WrongCount
from aliasparams.forms import ARGUMENTS, TERMS, has_form
from aliasparams.substitution import applied
from aliasparams.tables import letters_of


class Kept:
    """The results of the last different calls, each with its term and its row."""

    def __init__(self, book, *, most=8):
        self._book = book
        self._most = most
        # By the letters of each call, the last one at the end.
        self._calls = {}
        self._hits = 0
        self._misses = 0

    def result(self, term, row):
        """The term applied to the row. Raises the errors of applied."""
        letters = _letters_of_call(term, row)
        if letters in self._calls:
            self._hits += 1
            self._calls[letters] = self._calls.pop(letters)
            return self._calls[letters][2]
        found = applied(self._book, term, row)
        self._misses += 1
        self._calls[letters] = (term, tuple(row), found)
        if len(self._calls) > self._most:
            del self._calls[list(self._calls)[0]]
        return found

    def turn(self, book):
        """Use another book, and drop the results that are others with it; how many."""
        self._book = book
        others = [letters for letters, call in self._calls.items() if not _is_right(book, call)]
        for letters in others:
            del self._calls[letters]
        return len(others)

    def kept_calls(self):
        """The list of the kept calls, the last one at the end."""
        return [(term, row) for term, row, _ in self._calls.values()]

    @property
    def hits(self):
        """How many calls had a kept result."""
        return self._hits

    @property
    def misses(self):
        """How many calls had none, and no error."""
        return self._misses

    def __len__(self):
        return len(self._calls)


def _letters_of_call(term, row):
    """A string that is the same exactly for calls that are the same to the letter;
    None for calls that raise an error in any book."""
    if not has_form(term, TERMS) or not all([has_form(value, ARGUMENTS) for value in row]):
        return None
    return " ".join([letters_of(term), *[letters_of(value) for value in row]])


def _is_right(book, call):
    """Whether applied returns the result of a call with this book."""
    term, row, result = call
    try:
        found = applied(book, term, list(row))
    except (NoTerm, WrongCount, NoArgument, TooLarge):
        return False
    return letters_of(found) == letters_of(result)
