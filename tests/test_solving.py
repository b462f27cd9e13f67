"""Promise 12: solvable terms and their solutions."""

import copy
import itertools
import unittest

from aliasparams.books import Book
from aliasparams.substitution import is_solvable, solved, substituted
from aliasparams.terms import equal
from tests import reference
from tests.samples import (
    I, JUNK, L, Maker, T, WIDE, arrow, deep, inputs, many, parameter, row, star, table_of, told_by, union, use, wrapped)

S, N, U = use("str"), use("n"), use("u")
MORE = [entry for entry in WIDE if entry[1] not in ("both", "call", "lone")] + [
    parameter("u"), parameter("us", "variadic"), parameter("q", "signature")]
BOOK = Book(MORE)
TABLE = table_of(MORE)


class Solvable(unittest.TestCase):

    def check(self, term, right):
        self.assertIs(is_solvable(BOOK, term), right, term)
        self.assertIs(reference.is_solvable(TABLE, term), right)

    def test_unions(self):
        self.check(I, True)
        self.check(T, True)
        self.check(union(I, L), True)
        self.check(union(T, I), False)
        self.check(use("box", union(T, I)), False)
        self.check(union(use("box", T), I), False)
        self.check(union(arrow(inputs(tail="p"), I), L), False)
        self.check(use("tab", T, row(union(T, I))), True)
        self.check(use("tab", union(T, I), row(T)), True)
        self.check(use("tab", T, row(union(U, I))), False)
        self.check(arrow(inputs(union(use("tab", I, row(star("ts"))), L)), I), False)
        self.check(arrow(inputs(union(use("tab", I, row(star("ts"))), L), star("ts")), I), True)

    def test_open_places(self):
        self.check(use("tab", I, row(star("ts"))), True)
        self.check(use("tab", I, row(I, star("ts"), many(T), T)), True)
        self.check(use("tab", I, row(star("ts"), star("us"))), False)
        self.check(use("tab", I, row(star("ts"), I, star("ts"))), False)
        self.check(use("tab", use("tab", I, row(star("ts"))), row(star("ts"))), True)
        self.check(use("tab", use("tab", I, row(star("ts"))), row(star("us"), I)), True)
        self.check(arrow(inputs(star("ts")), I), True)
        self.check(arrow(inputs(star("ts"), tail="..."), I), True)
        self.check(arrow(inputs(star("ts"), tail="p"), I), False)
        self.check(arrow(inputs(star("ts"), star("us")), I), False)
        self.check(arrow(inputs(I, tail="p"), I), True)
        self.check(use("task", inputs(star("ts"), I, tail="p"), I), False)
        self.check(use("task", inputs(tail="p"), arrow(inputs(tail="q"), I)), True)
        self.check(use("task", inputs(tail="p"), arrow(inputs(tail="p"), I)), True)
        # Within unions there may be any number of them.
        inside = use("tab", I, row(star("ts"), star("us")))
        self.check(union(inside, I), False)
        self.check(use("task", inputs(use("tab", I, row(star("ts"))), use("tab", I, row(star("us"))), union(inside, I)), I), True)
        self.check(use("task", inputs(use("tab", inside, row())), I), False)

    def test_terms_that_are_none(self):
        for value in [value for value in JUNK if not reference.is_term(value)] + [row(), wrapped(300, I, tuple), deep(150)]:
            self.assertEqual(told_by(is_solvable, BOOK, value), ("NoTerm", -1, "form"))
            self.assertEqual(told_by(solved, BOOK, value, value), ("NoTerm", -1, "form"))
            self.assertEqual(told_by(solved, BOOK, I, value), ("NoTerm", -1, "form"))
            self.assertEqual(told_by(solved, BOOK, use("none"), value), ("NoTerm", 0, "unknown"))
        self.assertEqual(told_by(is_solvable, BOOK, use("box", S, S)), ("NoTerm", 0, "count"))
        self.assertEqual(told_by(solved, BOOK, use("box", use("num", S)), use("none")), ("NoTerm", 2, "bound"))
        self.assertEqual(told_by(solved, BOOK, T, use("box", use("none"))), ("NoTerm", 1, "unknown"))


class Solved(unittest.TestCase):

    def check(self, term, result, expected):
        self.assertIs(is_solvable(BOOK, term), True)
        found = solved(BOOK, term, result)
        self.assertEqual(found, expected, (term, result))
        if found is not None:
            self.assertIs(equal(substituted(BOOK, term, found), result), True)

    def test_plain(self):
        self.check(I, I, {})
        self.check(I, L, None)
        self.check(T, I, {"t": I})
        self.check(T, union(I, L), {"t": union(I, L)})
        self.check(T, T, {"t": T})
        self.check(T, use("box", T), {"t": use("box", T)})
        self.check(use("box", T), use("box", N), {"t": N})
        self.check(use("box", T), I, None)
        self.check(use("box", T), use("same", I), None)
        self.check(use("same", T), use("same", L), {"t": L})
        self.check(use("tab", T, row(U)), use("tab", I, row(L)), {"t": I, "u": L})
        self.check(arrow(inputs(T), U), arrow(inputs(L), T), {"t": L, "u": T})
        self.check(arrow(inputs(T), U), use("box", I), None)
        self.check(deep(149, T), deep(149, L), {"t": L})
        self.check(deep(140, T), deep(149, L), {"t": deep(9, L)})
        self.check(deep(140, T), deep(139, L), None)

    def test_items(self):
        self.check(use("tab", I, row(T)), use("tab", I, row(star("ts"))), None)
        self.check(use("tab", I, row(T)), use("tab", I, row(many(I))), None)
        self.check(use("tab", I, row(many(T))), use("tab", I, row(many(L))), {"t": L})
        self.check(use("tab", I, row(many(T))), use("tab", I, row(L)), None)
        self.check(use("tab", I, row(T)), use("tab", I, row()), None)
        self.check(use("tab", I, row(T)), use("tab", I, row(L, L)), None)
        self.check(use("tab", I, row(I)), use("tab", I, row(star("ts"))), None)
        self.check(use("tab", I, row(union(I, L))), use("tab", I, row(union(L, I))), {})
        self.check(use("tab", I, row(union(I, L))), use("tab", I, row(star("ts"))), None)

    def test_open_items(self):
        ahead, behind = use("tab", I, row(star("ts"), T, L)), use("tab", I, row(T, L, star("ts")))
        between = use("tab", I, row(T, star("ts"), L))
        self.check(use("tab", I, row(star("ts"))), use("tab", I, row()), {"ts": row()})
        self.check(use("tab", I, row(star("ts"))), use("tab", I, row(I, star("us"), many(T))), {"ts": row(I, star("us"), many(T))})
        for given in [(), (I,), (star("us"), many(I)), (L, L, star("ts"))]:
            self.check(ahead, use("tab", I, row(*given, S, L)), {"ts": row(*given), "t": S})
            self.check(behind, use("tab", I, row(S, L, *given)), {"ts": row(*given), "t": S})
            self.check(between, use("tab", I, row(S, *given, L)), {"ts": row(*given), "t": S})
            self.check(ahead, use("tab", I, row(*given, L, S)), None)
        for term in [ahead, behind, between]:
            for given in [(), (L,), (S, S), (L, many(L)), (star("us"), L, S)]:
                self.check(term, use("tab", I, row(*given)), None)
        self.check(arrow(inputs(star("ts"), T, tail="..."), I), arrow(inputs(L, T, tail="..."), I), {"ts": row(L), "t": T})
        self.check(arrow(inputs(star("ts"), T, tail="..."), I), arrow(inputs(L, T), I), None)
        self.check(arrow(inputs(star("ts"), T), I), arrow(inputs(L, T, tail="p"), I), None)
        self.check(arrow(inputs(star("ts")), I), arrow(inputs(tail="..."), I), None)

    def test_tails(self):
        term = arrow(inputs(I, T, tail="p"), L)
        for rest, tail in [((), None), ((), "..."), ((), "q"), ((L,), "p"), ((star("ts"), many(I)), None)]:
            self.check(term, arrow(inputs(I, S, *rest, tail=tail), L), {"t": S, "p": inputs(*rest, tail=tail)})
        for given in [inputs(), inputs(I), inputs(I, tail="p"), inputs(L, S), inputs(I, star("ts")), inputs(star("ts"), T), inputs(I, many(I))]:
            self.check(term, arrow(given, L), None)
        self.check(use("task", inputs(tail="p"), I), use("task", inputs(), I), {"p": inputs()})
        self.check(arrow(inputs(I, tail="..."), L), arrow(inputs(I, tail="..."), L), {})
        self.check(arrow(inputs(I, tail="..."), L), arrow(inputs(I), L), None)
        self.check(arrow(inputs(I), L), arrow(inputs(I, tail="..."), L), None)
        self.check(arrow(inputs(I), L), arrow(inputs(I, tail="p"), L), None)

    def test_parameters_that_stand_twice(self):
        self.check(use("tab", T, row(T)), use("tab", I, row(I)), {"t": I})
        self.check(use("tab", T, row(T)), use("tab", I, row(L)), None)
        twice = use("task", inputs(star("ts")), use("tab", I, row(star("ts"))))
        self.check(twice, use("task", inputs(L, T), use("tab", I, row(L, T))), {"ts": row(L, T)})
        self.check(twice, use("task", inputs(L, T), use("tab", I, row(T, L))), None)
        self.check(use("task", inputs(tail="p"), arrow(inputs(tail="p"), I)), use("task", inputs(L), arrow(inputs(L), I)), {"p": inputs(L)})
        self.check(use("task", inputs(tail="p"), arrow(inputs(tail="p"), I)), use("task", inputs(L), arrow(inputs(), I)), None)
        found = solved(BOOK, use("tab", T, row(T)), use("tab", union(I, L), row(union(L, I))))
        self.assertIs(equal(found["t"], union(I, L)), True)

    def test_unions(self):
        term = use("tab", T, row(union(T, I, use("box", T))))
        for members in itertools.permutations([L, I, use("box", L)]):
            self.check(term, use("tab", L, row(union(*members))), {"t": L})
        self.check(term, use("tab", I, row(union(I, use("box", I)))), {"t": I})
        self.check(term, use("tab", union(L, S), row(union(use("box", union(S, L)), S, I, L))), {"t": union(L, S)})
        self.check(term, use("tab", L, row(union(I, use("box", L)))), None)
        self.check(term, use("tab", L, row(I)), None)
        self.check(use("tab", T, row(union(T, I))), use("tab", I, row(I)), {"t": I})
        self.check(use("tab", T, row(union(T, I))), use("tab", I, row(many(I))), None)
        self.check(use("box", union(I, L)), use("box", union(L, I)), {})
        inside = use("task", inputs(use("tab", T, row(star("ts")))), union(T, use("tab", L, row(star("ts"), star("ts")))))
        self.check(inside, use("task", inputs(use("tab", I, row(S, L))), union(use("tab", L, row(S, L, S, L)), I)), {"t": I, "ts": row(S, L)})
        self.check(inside, use("task", inputs(use("tab", I, row(S, L))), union(use("tab", L, row(S, L, L, S)), I)), None)

    def test_bounds(self):
        for value, right in [(I, True), (L, True), (union(I, L), True), (use("same", I), True), (use("m"), True), (S, False),
                             (T, False), (union(I, S), False), (use("box", I), False), (arrow(inputs(), I), False)]:
            self.check(N, value, {"n": value} if right else None)
            self.check(use("tab", N, row(N)), use("tab", value, row(value)), {"n": value} if right else None)

    def test_results_with_parameters(self):
        self.check(use("tab", T, row(star("ts"), U)), use("tab", U, row(T, star("us"), star("ts"), U)),
                   {"t": U, "ts": row(T, star("us"), star("ts")), "u": U})

    def test_too_large(self):
        # The result is small, but the substitution would be too large unjoined.
        term = use("tab", T, row(union(T, U), union(U, T), U))
        for nodes, right in [(20, True), (24, True), (25, False), (33, False)]:
            value = deep(nodes - 1)
            self.check(term, use("tab", value, row(value, value, value)), {"t": value, "u": value} if right else None)

    def test_against_the_reference(self):
        maker = Maker(11, ["int", "bool", "t", "u", "n"], ["ts", "us"], ["p", "q"], {"box": ["plain"], "tab": ["plain", "variadic"]})
        seen = {True: 0, False: 0}
        while min(seen.values()) < 150:
            term = maker.term(2)
            if told_by(is_solvable, BOOK, term) != ("returned", True):
                continue
            mapping = {name: maker.value(TABLE[name][2], 1) for name in reference.ordered_parameters(TABLE, term)}
            given = told_by(substituted, BOOK, term, mapping)
            result = maker.shuffled(given[1]) if given[0] == "returned" and maker.random.random() < 0.6 else maker.term(2)
            if told_by(solved, BOOK, I, result)[0] == "NoTerm" or len(reference.nodes(result)) > 12 or len(mapping) > 2:
                continue
            found = solved(BOOK, term, result)
            expected = reference.solved(TABLE, term, result)
            self.assertEqual(found is None, expected is None, (term, result))
            if found is not None:
                self.assertEqual(set(found), set(mapping))
                for name in found:
                    self.assertEqual(reference.canonical(found[name]), reference.canonical(expected[name]))
            seen[found is not None] += 1

    def test_by_name_and_unchanged(self):
        term, result = use("tab", T, row(star("ts"))), use("tab", I, row(L))
        before = copy.deepcopy((term, result))
        found = solved(result=result, term=term, book=BOOK)
        self.assertEqual(found, {"t": I, "ts": row(L)})
        found.clear()
        self.assertEqual(solved(BOOK, term, result), {"t": I, "ts": row(L)})
        self.assertEqual((term, result), before)
        self.assertIs(is_solvable(term=term, book=BOOK), True)


