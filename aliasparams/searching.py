"""Rows of closed values that part two aliases, and least ones among them."""

from aliasparams.closed import ClosedLists, values_of_size
from aliasparams.forms import LIMIT
from aliasparams.heads import keeps_bound
from aliasparams.parts import laid_out
from aliasparams.terms import size


def least_row(pair):
    """A least row that parts a pair, as a tuple; None if no row does."""
    lists = ClosedLists(pair.facts)
    if "plain" in pair.kinds() and not lists.has_terms():
        return None
    row = _row_by_bounds(pair, lists)
    # A row has at least one node for each plain parameter.
    largest = LIMIT * LIMIT if row is None else sum([size(value) for value in row]) - 1
    if largest < pair.kinds().count("plain"):
        return row
    other = _row_by_bodies(pair, lists, largest)
    return row if other is None else other


def _row_by_bounds(pair, lists):
    """A least row with a value that suits only one of two parameters, or None."""
    found = [(_term_between(pair, lists, place), place) for place in range(len(pair.places))]
    found = [(size(term), place, term) for term, place in found if term is not None]
    if not found:
        return None
    _, place, term = min(found)
    row = [_least_value(lists, kind) for kind in pair.kinds()]
    row[place] = term
    return tuple(row)


def _term_between(pair, lists, place):
    """A least closed term that suits only one of the parameters at a place, or None."""
    bounds = [entry[3] for entry in pair.places[place]]
    if bounds[0] == bounds[1]:
        return None
    # Where the bounds differ, a core class or a signature of two nodes tells.
    lists.reach(2)
    for term in lists.terms[1] + lists.terms[2]:
        told = [bound is None or keeps_bound(pair.facts, laid_out(term), bound) for bound in bounds]
        if told[0] != told[1]:
            return term
    return None


def _least_value(lists, kind):
    """A closed value of the least size."""
    if kind == "variadic":
        return ("[]", ())
    return ("()", (), None) if kind == "signature" else lists.terms[1][0]


def _row_by_bodies(pair, lists, largest):
    """A least row that suits the parameters of both aliases and makes their bodies
    differ, None if there is none up to the largest size."""
    starts = [Start(pair, lists, row) for row in bounded_rows(pair)]
    starts = [start for start in starts if pair.differs_with(start.notes)]
    if not starts:
        return None
    total = min([start.least_total() for start in starts])
    while total <= largest:
        for start in starts:
            row = start.row_of_size(total)
            if row is not None:
                return row
        total += 1
    return None


def bounded_rows(pair):
    """The list of the rows of values for the places with a bound, which suit both
    parameters there; None stands at the other places."""
    rows = [()]
    for place in range(len(pair.places)):
        terms = pair.common_terms(place)
        values = [None] if terms is None else [term for _, term in terms]
        rows = [(*row, value) for row in rows for value in values]
    return rows


class Start:
    """A row of values at the places with a bound, from which rows are made.

    With values that are equal to nothing else at the other places, the bodies
    differ; so they do with some closed values there.
    """

    def __init__(self, pair, lists, row):
        self.pair = pair
        self.lists = lists
        self.row = row
        self.notes = pair.fresh_notes()
        for place, value in enumerate(row):
            if value is not None:
                self.notes[place] = pair.note(value)
        self.open_places = [place for place, value in enumerate(row) if value is None]
        self.bounded = sum([size(value) for value in row if value is not None])
        # Of each open place the least size of a value with which bodies may differ.
        self.least = {}
        # Of each open place and size the values with which bodies may differ.
        self.promising = {}

    def least_total(self):
        """No parting row is smaller than this."""
        return self.bounded + sum([self.least_at(place) for place in self.open_places])

    def least_at(self, place):
        """The least size of a value at an open place with which bodies may differ."""
        if place not in self.least:
            many = 0
            while self.first_value(place, self.notes, many) is None:
                many += 1
            self.least[place] = many
        return self.least[place]

    def first_value(self, place, notes, many):
        """The first value of a size with which the bodies differ, or None."""
        self.lists.reach(many - 1)
        entry = self.pair.places[place][0]
        lists = self.lists
        for value in values_of_size(lists, entry, many):
            if self.pair.differs_with(self.with_value(notes, place, value)):
                return value
        return None

    def values_at(self, place, many):
        """The list of the values of a size with which the bodies may differ."""
        if (place, many) not in self.promising:
            self.lists.reach(many)
            values = self.lists.values_for(self.pair.places[place][0], many)
            self.promising[place, many] = [
                value for value in values if self.pair.differs_with(self.with_value(self.notes, place, value))]
        return self.promising[place, many]

    def with_value(self, notes, place, value):
        """The notes with another value at a place."""
        return [*notes[:place], self.pair.note(value), *notes[place + 1:]]

    def row_of_size(self, total):
        """A parting row of this size, or None."""
        waiting = [(self.row, self.notes, self.open_places, total - self.bounded)]
        while waiting:
            row, notes, places, left = waiting.pop()
            if len(places) < 2:
                found = self.completed(row, notes, places, left)
                if found is not None:
                    return found
            else:
                waiting.extend(self.continued(row, notes, places, left))
        return None

    def completed(self, row, notes, places, left):
        """The row with a value of this size at the only open place, or None."""
        if not places:
            return row if left == 0 else None
        value = self.first_value(places[0], notes, left) if left >= 0 else None
        return None if value is None else (*row[:places[0]], value, *row[places[0] + 1:])

    def continued(self, row, notes, places, left):
        """The rows with a value at the first open place, as they wait to be completed."""
        place = places[0]
        rest = places[1:]
        most = left - sum([self.least_at(other) for other in rest])
        found = []
        for many in range(self.least_at(place), most + 1):
            for value in self.values_at(place, many):
                more = self.with_value(notes, place, value)
                if self.pair.differs_with(more):
                    found.append(((*row[:place], value, *row[place + 1:]), more, rest, left - many))
        return found[::-1]
