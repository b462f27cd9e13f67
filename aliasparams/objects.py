"""Terms as objects that know their book."""

from aliasparams.errors import NoName, NoText
from aliasparams.misfits import check_term, parameters_of
from aliasparams.substitution import applied
from aliasparams.terms import arguments, joined, key, origin
from aliasparams.texts import read_argument, show


class Alias:
    """A fitting term of a book."""

    def __init__(self, book, term):
        check_term(book.facts, term)
        self._book = book
        self._term = term
        self._origin = origin(term)
        self._arguments = arguments(term)
        self._parameters = parameters_of(book.facts, term)
        self._text = show(term)
        self._key = key(term)

    @classmethod
    def of(cls, book, name):
        """The use of a class or an alias with its own parameters as values, or of
        a plain parameter. Raises NoName."""
        entry = book.entry(name)
        if entry[0] != "parameter":
            return cls(book, (name, tuple([_as_value(parameter) for parameter in book.facts.takes[name]])))
        if entry[2] != "plain":
            raise NoName(name)
        return cls(book, (name, ()))

    @property
    def term(self):
        """The term itself."""
        return self._term

    @property
    def origin(self):
        """The name of a use, otherwise the first item of the term."""
        return self._origin

    @property
    def arguments(self):
        """The values of a use, the inputs and the result, or the members."""
        return self._arguments

    @property
    def parameters(self):
        """The tuple of the parameters, as they first occur."""
        return self._parameters

    def with_arguments(self, *values):
        """The alias with these arguments: aliases of an equal book, or texts.

        Raises NoText, then as applied.
        """
        given = [self._argument(value) for value in values]
        return Alias(self._book, applied(self._book, self._term, given))

    def joined_with(self, other):
        """The alias of the terms of both, joined. Raises NoText."""
        if not self._is_neighbour(other):
            raise NoText(other)
        return Alias(self._book, joined(self._term, other._term))

    def __eq__(self, other):
        return isinstance(other, Alias) and self._key == other._key and self._book == other._book

    def __len__(self):
        return len(self._parameters)

    def __bool__(self):
        return bool(self._parameters)

    def __contains__(self, name):
        return name in self._parameters

    def __str__(self):
        return f"{self._text}"

    def __repr__(self):
        return f"Alias({self._text})"

    def _argument(self, value):
        """The argument that an alias or a text stands for. Raises NoText."""
        return value._term if self._is_neighbour(value) else read_argument(self._book, value)

    def _is_neighbour(self, value):
        """Whether any value is an alias of an equal book."""
        return isinstance(value, Alias) and value._book == self._book


def _as_value(entry):
    """The value of a use that stands for the parameter of an entry."""
    _, name, kind, _ = entry
    if kind == "variadic":
        return ("[]", (("*", name),))
    return ("()", (), name) if kind == "signature" else (name, ())
