"""Promises 9, 10 and 14: heads of terms, bounds and climbs."""

import copy
import unittest

from aliasparams.books import Book
from aliasparams.bounds import climb, heads, is_within
from aliasparams.errors import NoTerm, TooLarge
from aliasparams.fits import misfit
from aliasparams.terms import is_term, size
from tests import reference
from tests.samples import (
    ENTRIES, I, JUNK, L, Maker, T, WIDE, arrow, book, deep, inputs, many, row, star, union, use, wide, wrapped)

S = use("str")
N = use("n")
M = use("m")
W = use("w")
LONE = use("lone")
TABLE = {entry[1]: entry for entry in WIDE}
USES = {entry[1]: [TABLE[name][2] for name in entry[2]] for entry in WIDE if entry[0] != "parameter"}

# Four core classes: d below c below a, and b.
FOUR = [
    ("class", "a", (), None), ("class", "b", (), None), ("class", "c", (), use("a")), ("class", "d", (), use("c")),
    ("parameter", "t", "plain", None), ("parameter", "ua", "plain", ("a",)), ("parameter", "ucd", "plain", ("c", "d")),
    ("parameter", "ubd", "plain", ("b", "d")), ("parameter", "uall", "plain", ("a", "b", "c", "d")),
    ("class", "box", ("t",), None), ("class", "low", (), use("box", use("d"))), ("class", "of", ("t",), use("d")),
    ("alias", "same", ("t",), T), ("alias", "either", ("t", "ua"), union(use("same", use("ua")), use("d"), T)),
    ("alias", "two", ("ua",), use("either", use("same", use("ua")), use("c"))), ("alias", "fun", (), arrow(inputs(), use("a"))),
]

# Classes that pass on parameters of each kind.
STEPS = ENTRIES + [
    ("class", "a", ("t", "ts", "p"), None),
    ("class", "b", ("ts", "p", "t"), use("a", use("box", T), row(star("ts"), I, many(T), star("ts")), inputs(L, star("ts"), tail="p"))),
    ("class", "c", ("p", "t"), use("b", row(T, arrow(inputs(T, tail="p"), T)), inputs(many(T), tail="..."), union(T, I))),
    ("class", "d", ("ts",), use("c", inputs(star("ts")), use("tab", I, row(star("ts"))))),
    ("class", "e", (), use("d", row())),
    ("class", "f", ("t",), use("box", union(T, I, use("box", T)))),
    ("class", "g", ("t",), use("f", union(L, T))),
    ("class", "h", ("ts",), use("tab", I, row(*[star("ts")] * 3))),
    ("class", "i", ("ts",), use("h", row(star("ts"), star("ts")))),
]
ABOVE = {entry[1]: entry for entry in STEPS}


class Heads(unittest.TestCase):

    def check(self, given, cases):
        for term, expected in cases:
            found = heads(given, term)
            self.assertEqual(found, expected, term)
            found.append("x")
            self.assertEqual(heads(given, term), expected)

    def test_uses_signatures_and_unions(self):
        self.check(wide(), [
            (I, ["int"]), (T, ["t"]), (N, ["n"]), (LONE, ["lone"]), (use("box", T), ["box"]), (use("tab", I, row(L)), ["tab"]),
            (arrow(inputs(), I), ["->"]), (arrow(inputs(T), union(I, L)), ["->"]), (union(I, L), ["bool", "int"]),
            (union(L, I), ["bool", "int"]), (union(T, arrow(inputs(), I), I, LONE, N), ["->", "int", "lone", "n", "t"]),
            (union(use("box", I), T, use("box", L)), ["box", "t"]), (union(arrow(inputs(), I), arrow(inputs(), L)), ["->"])])

    def test_aliases(self):
        self.check(wide(), [
            (use("same", I), ["int"]), (use("same", use("same", T)), ["t"]), (use("same", union(T, I)), ["int", "t"]),
            (use("same", arrow(inputs(), I)), ["->"]), (use("drop", use("box", I), N), ["n"]), (use("drop", T, L), ["bool"]),
            (use("both", I, S), ["bool", "int", "str"]), (use("both", W, T), ["bool", "t", "w"]),
            (use("both", L, use("drop", S, L)), ["bool"]), (use("call", inputs(tail="p"), T), ["->"]),
            (use("last", row(T), M), ["m", "str"]), (use("last", row(), union(I, N)), ["int", "n", "str"]),
            (use("box", use("same", I)), ["box"]), (union(use("same", I), use("last", row(), I), L), ["bool", "int", "str"]),
            (use("same", use("both", S, use("call", inputs(), I))), ["->", "bool", "str"])])
        self.check(Book(FOUR), [
            (use("either", T, use("c")), ["c", "d", "t"]), (use("two", use("ucd")), ["c", "d", "ucd"]), (use("fun"), ["->"]),
            (use("two", use("two", use("ua"))), ["c", "d", "ua"]), (use("of", use("fun")), ["of"])])

    def test_whatever_the_full_size_is(self):
        given = Book(ENTRIES + [("alias", "dup", ("t",), union(use("tab", T, row(T, T)), T)), ("alias", "same", ("t",), T)])
        term = L
        for _ in range(70):
            term = use("dup", use("same", term))
        self.check(given, [(term, ["bool", "tab"]), (use("box", term), ["box"]), (union(I, term), ["bool", "int", "tab"])])
        self.assertIs(is_within(given, term, ("int",)), False)
        chain = L
        for _ in range(149):
            chain = use("same", chain)
        self.check(given, [(chain, ["bool"])])
        self.assertIs(is_within(given, chain, ("int",)), True)

    def test_against_the_reference(self):
        given = wide()
        seen = 0
        for seed in range(10):
            maker = Maker(seed + 40, ["int", "bool", "str", "t", "n", "m", "w", "lone"], ["ts"], ["p"], USES)
            for _ in range(60):
                term = maker.term(4)
                if is_term(term) and reference.misfit(TABLE, term) is None:
                    seen += 1
                    self.assertEqual(heads(given, term), sorted(set(reference.heads(TABLE, term))))
                    for bound in [("int",), ("bool",), ("bool", "int"), ("int", "str"), ("str",), ("bool", "int", "str")]:
                        self.assertIs(is_within(given, term, bound), reference.is_within(TABLE, term, bound))
        self.assertGreater(seen, 150)


class Bounds(unittest.TestCase):

    def check(self, given, term, right, wrong):
        for bound in right:
            self.assertIs(is_within(given, term, bound), True, (term, bound))
        for bound in wrong:
            self.assertIs(is_within(given, term, bound), False, (term, bound))

    def test_classes(self):
        given = Book(FOUR)
        self.check(given, use("a"), [("a",), ("a", "b"), ("a", "d"), ("a", "b", "c", "d")], [("b",), ("c",), ("d",), ("b", "c", "d")])
        self.check(given, use("b"), [("b",), ("a", "b"), ("b", "c", "d")], [("a",), ("a", "c", "d")])
        self.check(given, use("c"), [("a",), ("c",), ("a", "b"), ("c", "d"), ("b", "c")], [("b",), ("d",), ("b", "d")])
        self.check(given, use("d"), [("a",), ("c",), ("d",), ("b", "d"), ("a", "b", "c")], [("b",)])
        everything = ("a", "b", "c", "d")
        self.check(given, use("low"), [], [("a",), ("d",), everything])
        self.check(given, use("of", use("a")), [], [("a",), ("d",), everything])
        self.check(given, use("box", use("a")), [], [("a",), everything])

    def test_parameters(self):
        given = Book(FOUR)
        everything = ("a", "b", "c", "d")
        self.check(given, T, [], [("a",), ("b",), everything])
        self.check(given, use("ua"), [("a",), ("a", "b"), everything], [("b",), ("c", "d"), ("b", "c", "d")])
        self.check(given, use("ucd"), [("a",), ("c",), ("c", "d"), ("a", "b")], [("d",), ("b", "d"), ("b",)])
        self.check(given, use("ubd"), [("b", "d"), ("a", "b"), ("b", "c"), everything], [("a",), ("b",), ("a", "c", "d")])
        self.check(given, use("uall"), [("a", "b"), everything], [("a",), ("b",), ("a", "c", "d"), ("b", "c", "d")])

    def test_unions_and_signatures(self):
        given = Book(FOUR)
        everything = ("a", "b", "c", "d")
        self.check(given, union(use("c"), use("d")), [("a",), ("c",), ("c", "d")], [("d",), ("b", "d"), ("b",)])
        self.check(given, union(use("ucd"), use("b")), [("a", "b"), ("b", "c"), everything], [("a",), ("b",), ("b", "d")])
        self.check(given, union(use("d"), T), [], [("a",), ("d",), everything])
        self.check(given, union(use("d"), arrow(inputs(), use("d"))), [], [("a",), ("d",), everything])
        self.check(given, arrow(inputs(), use("a")), [], [("a",), everything])

    def test_aliases(self):
        given = Book(FOUR)
        everything = ("a", "b", "c", "d")
        self.check(given, use("same", use("d")), [("a",), ("c",), ("d",)], [("b",)])
        self.check(given, use("either", use("b"), use("c")), [("a", "b"), ("b", "c"), everything], [("b", "d"), ("c", "d")])
        self.check(given, use("either", use("low"), use("c")), [], [("a",), everything])
        self.check(given, use("two", use("ucd")), [("a",), ("c",), ("b", "c")], [("d",), ("b", "d")])
        self.check(given, use("fun"), [], [("a",), everything])


class Climbs(unittest.TestCase):

    def test_steps(self):
        given = Book(STEPS)
        self.assertEqual(climb(given, use("bool")), [I])
        self.assertEqual(climb(given, use("g", T)), [use("f", union(L, T)),
                                                     use("box", union(L, T, I, use("box", union(L, T))))])
        self.assertEqual(climb(given, use("g", I)), [use("f", union(L, I)), use("box", union(L, I, use("box", union(L, I))))])
        self.assertEqual(climb(given, use("f", I)), [use("box", union(I, use("box", I)))])
        self.assertEqual(climb(given, use("g", L)), [use("f", L), use("box", union(L, I, use("box", L)))])
        self.assertEqual(climb(given, use("g", union(I, L))),
                         [use("f", union(L, I)), use("box", union(L, I, use("box", union(L, I))))])
        self.assertEqual(climb(given, use("b", row(), inputs(), T)),
                         [use("a", use("box", T), row(I, many(T)), inputs(L))])
        self.assertEqual(climb(given, use("b", row(many(I)), inputs(T, tail="..."), I)),
                         [use("a", use("box", I), row(many(I), I, many(I), many(I)), inputs(L, many(I), T, tail="..."))])
        self.assertEqual(climb(given, use("c", inputs(I, tail="p"), L)), [
            use("b", row(L, arrow(inputs(L, I, tail="p"), L)), inputs(many(L), tail="..."), union(L, I)),
            use("a", use("box", union(L, I)),
                row(L, arrow(inputs(L, I, tail="p"), L), I, many(union(L, I)), L, arrow(inputs(L, I, tail="p"), L)),
                inputs(L, L, arrow(inputs(L, I, tail="p"), L), many(L), tail="..."))])
        self.assertEqual(len(climb(given, use("e"))), 4)
        self.assertEqual(climb(given, use("e"))[:2], [use("d", row()), use("c", inputs(), use("tab", I, row()))])

    def test_other_terms(self):
        given = wide()
        for term in [T, N, arrow(inputs(), I), union(L, S), union(LONE, L), use("same", L), use("same", LONE), I, S,
                     use("box", I), use("last", row(), I)]:
            self.assertEqual(climb(given, term), [])
        self.assertEqual(climb(given, LONE), [use("box", I)])
        self.assertEqual(climb(given, L), [I])
        found = climb(given, L)
        found.clear()
        self.assertEqual(climb(given, L), [I])

    def test_aliases_in_bases_stay(self):
        given = Book(ENTRIES + [("alias", "same", ("t",), T), ("class", "a", ("t",), use("box", use("same", T))),
                                ("class", "b", ("t",), use("a", use("same", T)))])
        self.assertEqual(climb(given, use("b", use("same", I))),
                         [use("a", use("same", use("same", I))), use("box", use("same", use("same", use("same", I))))])

    def test_against_the_reference(self):
        given = Book(STEPS)
        uses = {entry[1]: [ABOVE[name][2] for name in entry[2]] for entry in STEPS if entry[0] != "parameter"}
        seen = 0
        for seed in range(20):
            maker = Maker(seed, ["int", "bool", "t", "e"], ["ts"], ["p"], uses)
            for _ in range(60):
                term = maker.term(3)
                if is_term(term) and reference.misfit(ABOVE, term) is None and term[0] in uses:
                    expected = reference.climb(ABOVE, term)
                    try:
                        found = climb(given, term)
                    except TooLarge as error:
                        self.assertEqual(error.limit, 150)
                        self.assertTrue(reference.climbs_too_far(ABOVE, term))
                        continue
                    self.assertFalse(reference.climbs_too_far(ABOVE, term))
                    self.assertEqual(found, expected)
                    self.assertEqual([misfit(given, base) for base in found], [None] * len(found))
                    seen += len(found)
        self.assertGreater(seen, 300)

    def check_sizes(self, term, sizes):
        given = Book(STEPS)
        if sizes is None:
            with self.assertRaises(TooLarge) as caught:
                climb(given, term)
            self.assertEqual(caught.exception.limit, 150)
        else:
            self.assertEqual([size(base) for base in climb(given, term)], sizes)

    def test_sizes(self):
        self.check_sizes(use("h", row(*[I] * 49)), [149])
        self.check_sizes(use("h", row(*[I] * 49, many(I))), None)
        self.check_sizes(use("h", row(*[I] * 50)), None)
        self.check_sizes(use("i", row(*[I] * 24)), [49, 146])
        self.check_sizes(use("i", row(*[I] * 25)), None)
        self.check_sizes(use("i", row(*[I] * 74)), None)
        self.check_sizes(use("i", row(*[I] * 75)), None)
        self.check_sizes(use("f", deep(71)), [148])
        self.check_sizes(use("f", deep(72)), [150])
        self.check_sizes(use("f", deep(73)), None)
        self.check_sizes(use("f", deep(148)), None)

    def test_sizes_are_unjoined(self):
        # The union within the union is a node, and int is counted twice.
        wide_union = union(I, deep(69), L)
        self.check_sizes(use("f", wide_union), [2 + 1 + 70 + 1 + 1 + 73])
        wide_union = union(I, deep(68), use("box", L), L)
        self.check_sizes(use("f", wide_union), None)
        wide_union = union(I, deep(70), L)
        self.check_sizes(use("f", wide_union), None)
        # The values are joined before the next step.
        self.check_sizes(use("g", union(I, L, deep(68))), [73, 146])
        self.check_sizes(use("g", union(I, L, deep(69))), [74, 148])
        self.check_sizes(use("g", union(I, L, deep(70))), None)

    def test_deep_terms(self):
        given = Book(STEPS)
        term = use("g", deep(148))
        with self.assertRaises(TooLarge):
            climb(given, term)
        self.assertEqual(climb(given, deep(149)), [])
        chain = L
        for _ in range(149):
            chain = use("box", chain)
        self.assertEqual(heads(given, chain), ["box"])
        self.assertIs(is_within(given, chain, ("int",)), False)


class NoTerms(unittest.TestCase):

    def check(self, given, value, number, reason):
        for function, more in [(heads, []), (is_within, [("int",)]), (climb, [])]:
            with self.assertRaises(NoTerm) as caught:
                function(given, value, *more)
            self.assertEqual((caught.exception.number, caught.exception.reason), (number, reason))

    def test_form(self):
        values = [value for value in JUNK if not is_term(value)]
        values += [row(), inputs(), star("ts"), many(I), deep(150), union(I, I), use("none", None),
                   wrapped(320), wrapped(320, I, tuple), use("bool", wrapped(310, I, tuple))]
        for value in values:
            self.check(book(), value, -1, "form")

    def test_misfits(self):
        for term in [use("none"), use("box"), use("box", row()), use("tab", T, row(star("t"))), use("num", T), use("bool", I),
                     use("box", use("num", union(I, S))), arrow(inputs(tail="ts"), T), union(L, use("same")), use("p")]:
            self.check(wide(), term, *misfit(wide(), term))


class Calls(unittest.TestCase):

    def test_by_name(self):
        self.assertEqual(heads(term=L, book=book()), ["bool"])
        self.assertIs(is_within(bound=("int",), book=book(), term=L), True)
        self.assertEqual(climb(term=L, book=book()), [I])

    def test_nothing_is_changed(self):
        given = Book(copy.deepcopy(STEPS))
        term = use("c", inputs(I, tail="p"), union(L, T))
        before = copy.deepcopy(term)
        for function in (heads, climb):
            function(given, term).clear()
            self.assertEqual(function(given, term), function(Book(STEPS), before))
        is_within(given, term, ("int",))
        self.assertEqual(term, before)
        self.assertEqual(given, Book(STEPS))
