"""Promise 13: closed values, in the order of their sizes."""

import itertools
import unittest

from aliasparams.alike import closed_values
from aliasparams.books import Book
from aliasparams.errors import NoName
from aliasparams.fits import misfit, parameters
from aliasparams.terms import equal, key, size
from tests import reference
from tests.samples import (
    ENTRIES, I, JUNK, L, WIDE, alias, arrow, inputs, made_class, many, parameter, row, table_of, union, use, wrapped)

A, B = use("a"), use("b")
PLAIN = [parameter("t"), parameter("ts", "variadic"), parameter("p", "signature")]
ONE = [made_class("a"), *PLAIN]


def values_up_to(entries, name, largest):
    found = itertools.takewhile(lambda value: size(value) <= largest, closed_values(Book(entries), name))
    return list(found)


def counts(entries, name, largest):
    sizes = [size(value) for value in values_up_to(entries, name, largest)]
    return [sizes.count(many) for many in range(largest + 1)]


class Counted(unittest.TestCase):
    """Counted by hand."""

    def test_one_class(self):
        # a; () -> a; (...) -> a, (a) -> a, () -> () -> a; of size 4: inputs of two
        # nodes (a, a), (a...), (() -> a), (a, ...) before a, of one node before
        # () -> a, of none before the three of size 3, and a | (() -> a).
        self.assertEqual(counts(ONE, "t", 4), [0, 1, 1, 3, 4 + 2 + 3 + 1])
        self.assertEqual(values_up_to(ONE, "t", 2), [A, arrow(inputs(), A)])
        # Nothing; a; a a, a..., () -> a; of size 3: three a, a and a... either way,
        # a and () -> a either way, (() -> a)..., and the three terms.
        self.assertEqual(counts(ONE, "ts", 3), [1, 1, 3, 1 + 2 + 2 + 1 + 3])
        self.assertEqual(values_up_to(ONE, "ts", 1), [row(), row(A)])
        self.assertEqual(counts(ONE, "p", 3), [1, 1 + 1, 3 + 1, 9 + 3])
        self.assertEqual(values_up_to(ONE, "p", 1)[0], inputs())
        self.assertEqual({str(value) for value in values_up_to(ONE, "p", 1)}, {str(value) for value in [
            inputs(), inputs(A), inputs(tail="...")]})

    def test_two_classes(self):
        entries = [made_class("a"), made_class("b", base=A), *PLAIN]
        # Of size 3: (...) -> x, (x) -> y, () -> () -> x, a | b.
        self.assertEqual(counts(entries, "t", 3), [0, 2, 2, 2 + 4 + 2 + 1])
        self.assertEqual(counts(entries, "ts", 2), [1, 2, 4 + 2 + 2])

    def test_classes_with_parameters(self):
        entries = [made_class("a"), *PLAIN, made_class("r", "ts"), made_class("q", "p"), made_class("x", "t"), made_class("y", "t", "ts")]
        # a, r[], q[[]]; of size 2: x[.], y[.], () -> . with three each, r[.] with
        # three, q[[.]] with three and q[[...]].
        self.assertEqual(counts(entries, "t", 2), [0, 3, 9 + 3 + 4])
        found = values_up_to(entries, "t", 2)
        for term in [use("r", row()), use("q", inputs()), use("q", inputs(tail="...")), use("y", A, row())]:
            self.assertIn(term, found)
        self.assertNotIn(use("y", A, row(A)), found)
        self.assertIn(use("y", A, row(A)), values_up_to(entries, "t", 3))

    def test_bounds(self):
        core = [made_class("a"), made_class("b", base=A), made_class("c"), made_class("d", base=B), made_class("lone", base=use("x", A))]
        for bound, names in [(("a",), "abd"), (("b",), "bd"), (("c",), "c"), (("a", "c"), "abcd"), (("d",), "d"), (("b", "d"), "bd")]:
            entries = [*PLAIN, *core[:4], made_class("x", "t"), core[4], parameter("n", "plain", bound)]
            found = list(closed_values(Book(entries), "n"))
            self.assertEqual(len(found), 2 ** len(names) - 1)
            self.assertEqual([size(term) for term in found], sorted(size(term) for term in found))
            self.assertEqual(len({key(term) for term in found}), len(found))
            for term in found:
                members = term[1] if term[0] == "|" else [term]
                self.assertLessEqual({member[0] for member in members}, set(names))
                self.assertEqual({member[1] for member in members}, {()})

    def test_parameters_of_classes_with_bounds(self):
        entries = [made_class("a"), made_class("b"), parameter("n", "plain", ("a",)), made_class("w", "n"), parameter("t")]
        # a, b; w[a], () -> a, () -> b.
        self.assertEqual(counts(entries, "t", 2), [0, 2, 3])
        self.assertEqual(list(closed_values(Book(entries), "n")), [A])
        both = entries + [parameter("m", "plain", ("a", "b")), made_class("v", "m")]
        self.assertIn(use("v", union(A, B)), [reference_order(term) for term in values_up_to(both, "t", 4)])

    def test_aliases_are_in_none(self):
        entries = ONE + [alias("s", ("t",), use("t")), alias("z", (), A), made_class("x", "t")]
        for name in ["t", "ts", "p"]:
            for value in values_up_to(entries, name, 4):
                self.assertFalse({"s", "z"} & {part[0] for part in reference.nodes(value)})

    def test_books_without_closed_terms(self):
        for more in [[], [made_class("x", "t")], [made_class("x", "t"), made_class("y", "t", "ts", "p"), made_class("z", "t", base=use("x", use("t")))]]:
            self.assertEqual(list(closed_values(Book(PLAIN + more), "t")), [])
            self.assertEqual(list(closed_values(Book(PLAIN + more), "ts")), [row()])
            self.assertEqual(list(closed_values(Book(PLAIN + more), "p")), [inputs(), inputs(tail="...")])


def reference_order(term):
    """A term with the members of its unions in one order."""
    if isinstance(term, tuple):
        found = tuple(reference_order(inner) for inner in term)
        return ("|", tuple(sorted(found[1], key=str))) if found and found[0] == "|" else found
    return term


class Listed(unittest.TestCase):

    def test_against_the_reference(self):
        for entries, largest in [
                (ONE, 6), (ONE + [made_class("b")], 4), (ENTRIES, 4), (WIDE, 3), (PLAIN + [made_class("r", "ts")], 5),
                (PLAIN + [made_class("q", "p"), made_class("x", "t")], 5),
                ([made_class("a"), made_class("b"), parameter("n", "plain", ("a", "b")), *PLAIN, made_class("w", "n", "ts")], 4)]:
            table = table_of(entries)
            closed = reference.Closed(table)
            for name in [entry[1] for entry in entries if entry[0] == "parameter"]:
                found = values_up_to(entries, name, largest)
                expected = [value for many in range(largest + 1) for value in closed.values(name, many)]
                self.assertEqual([size(value) for value in found], [size(value) for value in expected])
                self.assertEqual({str(reference_order(value)) for value in found}, {str(reference_order(value)) for value in expected})
                self.assertEqual(len({reference.canonical(value) for value in found}), len(found))

    def test_they_suit(self):
        given = Book(WIDE)
        for name in ["t", "n", "m", "w"]:
            for term in values_up_to(WIDE, name, 3):
                self.assertIsNone(misfit(given, term))
                self.assertEqual(parameters(given, term), ())
        for value in values_up_to(WIDE, "ts", 3) + values_up_to(WIDE, "p", 2):
            self.assertFalse(reference.has_misfit(table_of(WIDE), value))

    def test_many_are_told_quickly(self):
        found = list(itertools.islice(closed_values(Book(WIDE), "p"), 20000))
        self.assertEqual([size(value) for value in found], sorted(size(value) for value in found))
        self.assertEqual(len({key(value) for value in found}), 20000)
        self.assertEqual(found[:1], [inputs()])

    def test_small_ones(self):
        found = values_up_to(ENTRIES, "t", 3)
        for term in [I, L, use("box", I), arrow(inputs(), L), use("tab", L, row(I)), use("task", inputs(), I), use("task", inputs(tail="..."), L),
                     use("tab", I, row(L)), arrow(inputs(I), L)]:
            self.assertIn(term, found)
        self.assertEqual(sum(equal(term, union(L, I)) for term in found), 1)
        self.assertIn(row(many(I)), values_up_to(ENTRIES, "ts", 2))

    def test_names_that_are_none(self):
        values = JUNK + ["none", "box", "a", wrapped(300), ["t"], {}, "T", ("t",), 10 ** 39]
        for value in values:
            found = closed_values(Book(ENTRIES), value)
            with self.assertRaises(NoName) as caught:
                next(found)
            self.assertEqual(caught.exception.name, value)
        with self.assertRaises(NoName):
            next(closed_values(Book(), "t"))

    def test_generators_apart(self):
        one, other = closed_values(name="t", book=Book(ENTRIES)), closed_values(Book(ENTRIES), "t")
        first = [next(one) for _ in range(50)]
        self.assertEqual([next(other) for _ in range(50)], first)
        self.assertEqual([next(one) for _ in range(20)], [next(other) for _ in range(20)])
