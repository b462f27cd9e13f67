"""The closed values of a book, listed size by size.

No two values in the lists are equal, also not up to the order of members, and
none is left out. A list of one size is made from those of the smaller sizes.
"""

from aliasparams.forms import LIMIT
from aliasparams.heads import is_class_within


class ClosedLists:
    """The closed terms, rows and inputs of a book, as far as they are listed."""

    def __init__(self, facts):
        self.classes = [(name, facts.takes[name]) for name in facts.takes if name not in facts.bodies]
        # Of each bound the closed terms within it, also sized.
        bounds = [entry[3] for entry in facts.by_name.values() if entry[0] == "parameter" and entry[3] is not None]
        self.within = {bound: bounded_terms(facts, [bound]) for bound in bounds}
        # Of each size the terms, the items, the rows and the inputs.
        self.terms = []
        self.items_of = []
        self.rows = []
        self.inputs = []
        # Of each size the terms that are no unions, each with its rank among all.
        self.singles = []
        # Of each size the tuples of such terms in the order of their ranks, each
        # with the rank of the last one.
        self.chosen = []

    def reach(self, size):
        """List all closed values up to a size."""
        while len(self.terms) <= size:
            self.list_next(len(self.terms))

    def list_next(self, size):
        """List the closed values of the first size that is not listed."""
        terms = list(terms_of_size(self, size))
        rows = list(rows_of_size(self, size))
        inputs = list(inputs_of_size(self, size))
        many = [("...", term) for term in self.terms[size - 1]] if size > 0 else []
        first = sum([len(ranked) for ranked in self.singles])
        singles = [term for term in terms if term[0] != "|"]
        self.singles.append([(first + at, term) for at, term in enumerate(singles)])
        self.terms.append(terms)
        self.items_of.append(terms + many)
        self.rows.append(rows)
        self.inputs.append(inputs)
        self.chosen.append(self.chosen_of_size(size))

    def chosen_of_size(self, size):
        """The tuples of terms that are no unions of this size in all."""
        if size == 0:
            return [(-1, ())]
        found = []
        for last in range(1, size + 1):
            for rank, term in self.singles[last]:
                found.extend([(rank, (*terms, term)) for other, terms in self.chosen[size - last] if other < rank])
        return found

    def values_for(self, entry, size):
        """The list of the closed values of a listed size that suit the parameter
        of an entry."""
        if entry[2] == "variadic":
            return self.rows[size]
        if entry[2] == "signature":
            return self.inputs[size]
        if entry[3] is None:
            return self.terms[size]
        return [term for many, term in self.within[entry[3]] if many == size]

    def value_tuples(self, entries, size):
        """The list of the tuples of closed values for some parameters, of this
        size in all."""
        found = []
        for sizes in _splits(size, len(entries)):
            tuples = [()]
            for entry, part in zip(entries, sizes):
                values = self.values_for(entry, part)
                tuples = [(*before, value) for before in tuples for value in values]
            found.extend(tuples)
        return found

    def has_terms(self):
        """Whether there is any closed term; if there is, one has a single node."""
        self.reach(1)
        return len(self.terms[1]) > 0

    def last_size(self, entry):
        """No closed value for the parameter of an entry is larger than this."""
        if entry[3] is not None:
            return max([many for many, _ in self.within[entry[3]]])
        return LIMIT if self.has_terms() else 1


def bounded_terms(facts, bounds):
    """The list of the closed terms within all of some bounds, each behind its
    size, in the order of the sizes."""
    names = sorted(list(facts.lines))
    for bound in bounds:
        names = [name for name in names if is_class_within(facts, name, bound)]
    groups = [()]
    for name in names:
        groups = groups + [(*group, (name, ())) for group in groups]
    found = [(1, group[0]) for group in groups if len(group) == 1]
    for many in range(2, len(names) + 1):
        found.extend([(many + 1, ("|", group)) for group in groups if len(group) == many])
    return found


def values_of_size(lists, entry, size):
    """The closed values of a size that suit the parameter of an entry, one after
    the other. The smaller ones are listed."""
    if entry[3] is not None:
        for many, term in lists.within[entry[3]]:
            if many == size:
                yield term
    elif entry[2] == "plain":
        yield from terms_of_size(lists, size)
    elif entry[2] == "variadic":
        yield from rows_of_size(lists, size)
    else:
        yield from inputs_of_size(lists, size)


def terms_of_size(lists, size):
    """The closed terms of a size, one after the other."""
    left = size - 1
    for name, entries in lists.classes:
        for values in lists.value_tuples(entries, left):
            yield (name, values)
    for part in range(left):
        for given in lists.inputs[part]:
            for result in lists.terms[left - part]:
                yield ("->", given, result)
    if left > 0:
        for _, members in lists.chosen[left]:
            if len(members) > 1:
                yield ("|", members)


def rows_of_size(lists, size):
    """The closed rows of a size, one after the other."""
    if size == 0:
        yield ("[]", ())
    for term in terms_of_size(lists, size):
        yield ("[]", (term,))
    if size > 0:
        for term in lists.terms[size - 1]:
            yield ("[]", (("...", term),))
    for first in range(1, size):
        for item in lists.items_of[first]:
            for row in lists.rows[size - first]:
                yield ("[]", (item, *row[1]))


def inputs_of_size(lists, size):
    """The closed inputs of a size, one after the other."""
    for row in rows_of_size(lists, size):
        yield ("()", row[1], None)
    if size > 0:
        for row in lists.rows[size - 1]:
            yield ("()", row[1], "...")


def _splits(total, many):
    """The list of the tuples of so many sizes that make a total."""
    found = [()]
    for _ in range(many):
        found = [(*sizes, size) for sizes in found for size in range(total - sum(sizes) + 1)]
    return [sizes for sizes in found if sum(sizes) == total]
