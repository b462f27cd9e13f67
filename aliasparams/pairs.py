"""Two aliases of the same shape, and whether values part them."""

from aliasparams.closed import bounded_terms
from aliasparams.errors import NoName
from aliasparams.names import is_name
from aliasparams.noting import noted
from aliasparams.parts import laid_out

LARGEST_BODY = 30


class Pair:
    """Two aliases of the same shape.

    Notes are lists of notes of values, one for each place. Where no value is
    chosen stands the note of a value that is equal to no other one.
    """

    def __init__(self, facts, one, other):
        self.facts = facts
        self.bodies = (facts.bodies[one], facts.bodies[other])
        # Of each place the entries of the two parameters.
        self.places = list(zip(facts.takes[one], facts.takes[other]))
        self.numbers = {}

    def kinds(self):
        """The kind of the parameters at each place."""
        return [entries[0][2] for entries in self.places]

    def note(self, value):
        """The note of a value."""
        return noted(self.numbers, laid_out(value), {})

    def fresh_notes(self):
        """The notes of values that stand for any other ones, at all places."""
        return [self.note(_stand_in(str(place), kind)) for place, kind in enumerate(self.kinds())]

    def body_notes(self, notes):
        """The notes of the two expanded bodies with these values."""
        return [noted(self.numbers, body, dict(zip(names, notes))) for names, body in self.bodies]

    def differs_with(self, notes):
        """Whether the expanded bodies with these values are not equal."""
        one, other = self.body_notes(notes)
        return one[1] != other[1]

    def common_terms(self, place):
        """The closed terms that keep both bounds at a place, each behind its size,
        in the order of the sizes; None if there is no bound."""
        bounds = [entry[3] for entry in self.places[place] if entry[3] is not None]
        return bounded_terms(self.facts, bounds) if bounds else None


def check_alias(facts, value):
    """Raises NoName if any value is not the name of an alias."""
    if not is_alias(facts, value):
        raise NoName(value)


def is_alias(facts, value):
    """Whether any value is the name of an alias."""
    return is_name(value) and value in facts.bodies


def are_of_one_shape(facts, one, other):
    """Whether two aliases have equally many parameters, of the same kinds."""
    kinds = [[entry[2] for entry in facts.takes[name]] for name in (one, other)]
    return kinds[0] == kinds[1]


def is_small(facts, name):
    """Whether the full size of the body of an alias is at most thirty."""
    own, times = facts.weights[name]
    return own + sum(times) <= LARGEST_BODY


def _stand_in(mark, kind):
    """A value that stands in no term, as its name is none."""
    if kind == "variadic":
        return ("[]", (("*", mark),))
    return ("()", (), mark) if kind == "signature" else (mark, ())
