"""Promises 2, 8, 10 and 11: misfits and parameters of terms."""

import copy
import unittest

from aliasparams.books import Book
from aliasparams.errors import NoTerm
from aliasparams.fits import misfit, parameters
from aliasparams.heads import heads_of
from aliasparams.parts import laid_out
from aliasparams.terms import is_term
from tests import reference
from tests.samples import (
    ENTRIES, I, JUNK, L, Maker, T, WIDE, arrow, book, changed_everywhere, deep, inputs, many, row, star, union,
    use, wide, wrapped)

S = use("str")
N = use("n")
LONE = use("lone")


class Misfits(unittest.TestCase):

    def setUp(self):
        self.book = wide()

    def check(self, cases):
        for term, expected in cases:
            self.assertIs(is_term(term), True, term)
            self.assertEqual(misfit(self.book, term), expected, term)

    def test_none(self):
        self.check([(term, None) for term in [
            I, T, LONE, use("box", I), use("box", union(I, T)), use("tab", I, row()), use("tab", I, row(star("ts"))),
            use("tab", I, row(I, many(L), star("ts"), star("ts"))), use("task", inputs(), I),
            use("task", inputs(I, star("ts"), many(T), tail="p"), arrow(inputs(tail="..."), L)),
            use("same", arrow(inputs(tail="p"), I)), arrow(inputs(), I), union(I, arrow(inputs(many(T)), L)),
            use("call", inputs(tail="p"), T), use("last", row(star("ts")), N)]])

    def test_unknown(self):
        self.check([
            (use("none"), (0, "unknown")), (use("none", I), (0, "unknown")), (use("box", use("none")), (1, "unknown")),
            (use("tab", I, row(star("none"))), (2, "unknown")), (use("task", inputs(tail="none"), I), (1, "unknown")),
            (arrow(inputs(I, tail="none"), I), (2, "unknown")), (use("tab", I, row(many(use("none")))), (3, "unknown")),
            (union(I, use("none")), (2, "unknown")), (arrow(inputs(), use("none")), (1, "unknown"))])

    def test_kind(self):
        self.check([
            (use("ts"), (0, "kind")), (use("p"), (0, "kind")), (use("ts", I), (0, "kind")),
            (use("box", use("p")), (1, "kind")), (use("tab", I, row(star("t"))), (2, "kind")),
            (use("tab", I, row(star("p"))), (2, "kind")), (use("tab", I, row(star("int"))), (2, "kind")),
            (use("tab", I, row(star("same"))), (2, "kind")), (use("task", inputs(tail="t"), I), (1, "kind")),
            (use("task", inputs(tail="ts"), I), (1, "kind")), (use("task", inputs(tail="int"), I), (1, "kind")),
            (use("task", inputs(tail="call"), I), (1, "kind")), (arrow(inputs(star("t")), I), (1, "kind"))])

    def test_count(self):
        self.check([
            (use("int", I), (0, "count")), (use("box"), (0, "count")), (use("box", I, I), (0, "count")),
            (use("t", I), (0, "count")), (use("t", row()), (0, "count")), (use("tab", I), (0, "count")),
            (use("tab", I, row(), row()), (0, "count")), (use("same"), (0, "count")), (use("drop", I), (0, "count")),
            (use("lone", I), (0, "count")), (use("box", use("t", I)), (1, "count")),
            (use("tab", row()), (0, "count")), (use("box", use("none"), I), (0, "count"))])

    def test_value(self):
        self.check([
            (use("box", row()), (0, "value")), (use("box", inputs()), (0, "value")), (use("tab", I, I), (0, "value")),
            (use("tab", I, inputs()), (0, "value")), (use("tab", row(), row()), (0, "value")),
            (use("tab", row(), I), (0, "value")), (use("task", I, I), (0, "value")),
            (use("task", row(), I), (0, "value")), (use("task", inputs(), inputs()), (0, "value")),
            (use("call", arrow(inputs(), I), I), (0, "value")), (use("box", use("box", row(use("none")))), (1, "value")),
            (use("tab", use("none"), I), (0, "value")), (use("tab", union(I, L), union(I, L)), (0, "value"))])

    def test_bound(self):
        self.check([
            (use("num", I), None), (use("num", L), None), (use("num", N), None), (use("num", use("m")), None),
            (use("num", S), (1, "bound")), (use("num", T), (1, "bound")), (use("num", use("w")), (1, "bound")),
            (use("num", use("box", I)), (1, "bound")), (use("num", LONE), (1, "bound")),
            (use("num", arrow(inputs(), I)), (1, "bound")), (use("num", union(I, L)), None),
            (use("num", union(I, S)), (1, "bound")), (use("num", union(N, use("m"), L)), None),
            (use("num", union(L, arrow(inputs(), I))), (1, "bound")), (use("box", use("num", T)), (2, "bound")),
            (use("both", S, I), None), (use("both", union(S, L, I), I), None), (use("both", use("w"), I), None),
            (use("both", use("m"), I), None), (use("both", T, I), (1, "bound")),
            (use("drop", T, S), (2, "bound")), (use("drop", S, I), None),
            (union(I, use("num", S)), (3, "bound")), (use("tab", I, row(many(use("num", S)))), (4, "bound")),
            (arrow(inputs(use("num", S)), I), (2, "bound"))])

    def test_bound_of_aliases(self):
        # The heads are those of the expanded use.
        self.check([
            (use("num", use("same", I)), None), (use("num", use("same", S)), (1, "bound")),
            (use("num", use("same", use("same", L))), None), (use("num", use("same", use("same", T))), (1, "bound")),
            (use("num", use("drop", S, L)), None), (use("num", use("drop", S, N)), None),
            (use("num", use("both", I, L)), None), (use("num", use("both", S, L)), (1, "bound")),
            (use("num", use("both", I, S)), (1, "bound")), (use("num", use("both", I, T)), (1, "bound")),
            (use("num", use("both", L, union(L, use("drop", T, I)))), None),
            (use("num", use("call", inputs(), I)), (1, "bound")), (use("num", use("last", row(), I)), (1, "bound")),
            (use("both", use("last", row(S), L), I), None), (use("both", use("last", row(S), N), I), None),
            (use("both", use("last", row(star("ts")), use("same", I)), T), None)])

    def test_bound_only_where_the_value_has_no_misfit(self):
        self.check([
            (use("num", use("none")), (1, "unknown")), (use("num", use("ts")), (1, "kind")),
            (use("num", use("box", use("none"))), (2, "unknown")), (use("num", use("box", row())), (1, "value")),
            (use("num", union(S, use("box"))), (3, "count")), (use("num", use("num", S)), (2, "bound")),
            (use("num", union(S, use("box", use("num", T)))), (5, "bound")),
            (use("num", arrow(inputs(tail="none"), I)), (2, "unknown")),
            (use("drop", use("num", S), S), (2, "bound")), (use("num", use("same", use("num", S))), (3, "bound"))])

    def test_the_first_node(self):
        self.check([
            (use("tab", use("box"), row(use("none"))), (1, "count")),
            (use("tab", I, row(I, star("t"), use("none"))), (3, "kind")),
            (use("task", inputs(I, many(use("box")), tail="none"), use("p")), (3, "count")),
            (use("task", inputs(I, many(use("box", I)), tail="none"), use("p")), (5, "unknown")),
            (use("task", inputs(I, tail="p"), use("p")), (3, "kind")),
            (arrow(inputs(I, star("ts"), tail="t"), use("none")), (3, "kind")),
            (arrow(inputs(I, star("ts"), tail="..."), use("none")), (4, "unknown")),
            (union(use("box", union(I, L)), use("tab", T, row(star("ts"), use("p"))), use("none")), (8, "kind")),
            (use("drop", use("num", L), S), (3, "bound")), (use("drop", use("num", S), use("none")), (2, "bound")),
            (use("both", use("none"), use("num", S)), (1, "unknown")), (use("both", T, use("none")), (1, "bound")),
            (use("box", use("box", use("box", use("num", S)))), (4, "bound"))])

    def test_order_of_the_misfits_of_a_node(self):
        self.check([
            (use("none", row()), (0, "unknown")), (use("ts", row(), row()), (0, "kind")),
            (use("tab", row()), (0, "count")), (use("num", row()), (0, "value")), (use("num", S, S), (0, "count"))])

    def test_large_terms(self):
        self.assertIsNone(misfit(self.book, deep(149)))
        self.assertEqual(misfit(self.book, deep(149, use("none"))), (149, "unknown"))
        chain, numbers = I, I
        for _ in range(149):
            chain, numbers = use("same", chain), use("num", numbers)
        self.assertIsNone(misfit(self.book, chain))
        self.assertEqual(misfit(self.book, numbers), (148, "bound"))
        chain = S
        for _ in range(148):
            chain = use("same", chain)
        self.assertEqual(misfit(self.book, use("num", chain)), (1, "bound"))

    def test_heads_of_a_huge_expansion(self):
        # The expanded value has far more than 2 ** 40 nodes.
        doubled = Book(ENTRIES + [
            ("parameter", "n", "plain", ("int",)), ("class", "num", ("n",), None), ("alias", "same", ("t",), T),
            ("alias", "dup", ("t",), union(use("tab", T, row(T)), T)),
            ("alias", "two", ("t",), union(T, use("same", T), L))])
        inner = other = I
        for _ in range(60):
            inner, other = use("dup", inner), use("two", use("dup", other))
        two = I
        for _ in range(60):
            two = use("two", two)
        self.assertEqual(misfit(doubled, use("num", inner)), (1, "bound"))
        self.assertEqual(misfit(doubled, use("num", other)), (1, "bound"))
        self.assertIsNone(misfit(doubled, use("num", two)))

    def test_against_the_reference(self):
        table = {entry[1]: entry for entry in WIDE}
        uses = {entry[1]: [table[name][2] for name in entry[2]] for entry in WIDE if entry[0] != "parameter"}
        seen = {}
        for seed in range(30):
            maker = Maker(seed, ["int", "bool", "str", "t", "n", "m", "w", "lone"] + ["none"] * (seed == 0),
                          ["ts"] + ["t"] * (seed == 1), ["p"] + ["ts"] * (seed == 2), uses)
            for _ in range(100):
                term = maker.term(4)
                if is_term(term):
                    expected = reference.misfit(table, term)
                    self.assertEqual(misfit(self.book, term), expected, term)
                    seen[expected and expected[1]] = seen.get(expected and expected[1], 0) + 1
        for reason in [None, "unknown", "kind", "value", "bound"]:
            self.assertGreater(seen[reason], 9, reason)

    def test_changed_terms_against_the_reference(self):
        table = {entry[1]: entry for entry in WIDE}
        for term in [use("tab", use("num", N), row(star("ts"), many(I))),
                     use("task", inputs(use("same", I), tail="p"), union(L, use("num", use("both", I, L))))]:
            for value in changed_everywhere(term):
                if is_term(value):
                    self.assertEqual(misfit(self.book, value), reference.misfit(table, value), value)


class Heads(unittest.TestCase):

    def test_ascending_and_each_once(self):
        facts = wide().facts
        for term, expected in [
                (I, ["int"]), (arrow(inputs(), I), ["->"]), (union(T, arrow(inputs(T), I), I, LONE), ["->", "int", "lone", "t"]),
                (union(use("box", I), use("box", L)), ["box"]), (use("both", union(S, T), arrow(inputs(), I)),
                                                                 ["->", "bool", "str", "t"]),
                (use("same", union(use("w"), use("drop", T, I))), ["int", "w"]), (use("last", row(T), N), ["n", "str"])]:
            self.assertEqual(heads_of(facts, laid_out(term)), expected, term)


class Parameters(unittest.TestCase):

    def test_order(self):
        given = wide()
        for term, expected in [
                (I, ()), (T, ("t",)), (use("box", T), ("t",)), (use("tab", T, row(star("ts"))), ("t", "ts")),
                (use("tab", I, row(star("ts"), T)), ("ts", "t")), (use("task", inputs(tail="p"), T), ("p", "t")),
                (use("task", inputs(T, star("ts"), tail="p"), T), ("t", "ts", "p")),
                (arrow(inputs(many(N), tail="..."), T), ("n", "t")), (union(use("w"), N, use("box", use("w"))), ("w", "n")),
                (union(T, I, use("m"), N), ("t", "m", "n")), (use("last", row(star("ts"), T), N), ("ts", "t", "n")),
                (use("same", T), ("t",)), (use("drop", T, N), ("t", "n")), (use("lone"), ()),
                (arrow(inputs(arrow(inputs(tail="p"), T), tail="p"), N), ("p", "t", "n"))]:
            self.assertEqual(parameters(given, term), expected, term)

    def test_misfits(self):
        given = wide()
        for term in [use("none"), use("box"), use("box", row()), use("tab", T, row(star("t"))), use("num", T),
                     use("box", use("num", union(I, S))), arrow(inputs(tail="ts"), T)]:
            with self.assertRaises(NoTerm) as caught:
                parameters(given, term)
            self.assertEqual((caught.exception.number, caught.exception.reason), misfit(given, term))


class NoTerms(unittest.TestCase):

    def test_values_that_are_no_terms(self):
        values = [value for value in JUNK if not is_term(value)]
        values += [row(), inputs(), star("ts"), many(I), deep(150), union(I, I), use("none", None),
                   wrapped(320), wrapped(320, I, tuple), use("none", wrapped(310, I, tuple))]
        for value in values:
            for function in (misfit, parameters):
                with self.assertRaises(NoTerm) as caught:
                    function(book(), value)
                self.assertEqual((caught.exception.number, caught.exception.reason), (-1, "form"))

    def test_form_comes_before_misfits(self):
        with self.assertRaises(NoTerm) as caught:
            parameters(book(), use("none", use("box"), None))
        self.assertEqual((caught.exception.number, caught.exception.reason), (-1, "form"))


class Calls(unittest.TestCase):

    def test_by_name(self):
        self.assertEqual(misfit(book=book(), term=use("box")), (0, "count"))
        self.assertEqual(parameters(term=T, book=book()), ("t",))

    def test_example(self):
        term = ("task", (("()", (("int", ()),), "p"), ("->", ("()", (), "..."), ("bool", ()))))
        self.assertIsNone(misfit(book(), term))
        self.assertEqual(parameters(book(), term), ("p",))

    def test_nothing_is_changed(self):
        entries = copy.deepcopy(ENTRIES)
        given = Book(entries)
        for value in [T, use("none"), ["int", [I]]]:
            before = copy.deepcopy(value)
            for function in (misfit, parameters):
                try:
                    function(given, value)
                except NoTerm:
                    pass
            self.assertEqual(value, before)
        self.assertEqual(given.entries(), ENTRIES)
        self.assertEqual(given, Book(ENTRIES))

    def test_books_apart(self):
        small, large = Book(ENTRIES[:1]), Book(ENTRIES)
        self.assertEqual(misfit(small, L), (0, "unknown"))
        self.assertIsNone(misfit(large, L))
        self.assertEqual(misfit(small, L), (0, "unknown"))
        self.assertEqual(misfit(Book(), I), (0, "unknown"))
