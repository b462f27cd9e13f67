"""Promises 2 and 3 for kept results: the class Kept."""

import copy
import random
import unittest

from aliasparams.books import Book
from aliasparams.kept import Kept
from aliasparams.substitution import applied
from tests.samples import (
    ENTRIES, I, JUNK, L, T, alias, book, deep, inputs, made_class, many, parameter, row, star, told_by, union, use, wide, wrapped)

BOX, S, N, U = use("box", T), use("str"), use("n"), use("u")


class Checks(unittest.TestCase):

    def state(self, kept):
        return kept.hits, kept.misses, len(kept), kept.kept_calls()

    def asked(self, kept, term, given, hit):
        """A call without an error, which is a hit or a miss."""
        hits, misses = kept.hits, kept.misses
        found = kept.result(term, given)
        self.assertEqual((kept.hits, kept.misses), (hits + hit, misses + (not hit)))
        self.assertEqual(kept.kept_calls()[-1], (term, tuple(given)))
        self.assertEqual(len(kept), len(kept.kept_calls()))
        return found


class Results(Checks):

    def test_hits_and_misses(self):
        kept = Kept(book())
        self.assertEqual(self.state(kept), (0, 0, 0, []))
        self.assertEqual(self.asked(kept, BOX, [I], False), use("box", I))
        self.assertEqual(self.asked(kept, BOX, [I], True), use("box", I))
        self.assertEqual(self.asked(kept, BOX, [L], False), use("box", L))
        self.assertEqual(self.asked(kept, T, [I], False), I)
        self.assertEqual(self.asked(kept, I, [], False), I)
        self.assertEqual(self.asked(kept, BOX, [I], True), use("box", I))
        self.assertEqual(self.state(kept), (2, 4, 4, [(BOX, (L,)), (T, (I,)), (I, ()), (BOX, (I,))]))

    def test_calls_that_are_the_same_to_the_letter(self):
        kept = Kept(Book(ENTRIES + [parameter("us", "variadic"), parameter("q", "signature")]), most=50)
        calls = [(BOX, [union(I, L)]), (BOX, [union(L, I)]), (union(T, I), [L]), (union(I, T), [L]),
                 (use("tab", T, row(star("ts"))), [I, L]), (use("tab", I, row(star("ts"))), [I, L]), (use("tab", I, row(star("ts"))), [L, I]),
                 (use("tab", T, row(star("ts"))), [I, many(L)]), (use("tab", T, row(star("ts"))), [I, star("ts")]),
                 (use("tab", T, row(star("ts"))), [I, star("us")]), (use("tab", T, row(star("ts"))), [I, use("box", I)])]
        calls += [(use("task", inputs(tail="p"), I), [inputs(tail=tail)]) for tail in [None, "...", "p", "q"]]
        for term, given in calls:
            self.asked(kept, term, given, False)
        for term, given in calls:
            self.asked(kept, copy.deepcopy(term), copy.deepcopy(given), True)
        self.assertEqual(kept.kept_calls(), [(term, tuple(given)) for term, given in calls])

    def test_order_and_dropping(self):
        for most in [1, 2, 8, 50]:
            kept = Kept(book(), most=most)
            terms = [deep(many_nodes, T) for many_nodes in range(60)]
            for at, term in enumerate(terms):
                self.asked(kept, term, [I], False)
                self.assertEqual(kept.kept_calls(), [(other, (I,)) for other in terms[max(0, at - most + 1):at + 1]])
            first = terms[60 - most]
            self.asked(kept, first, [I], True)
            self.asked(kept, terms[0], [I], False)
            expected = (terms[61 - most:] + [first] if most > 1 else [first]) + [terms[0]]
            self.assertEqual([term for term, _ in kept.kept_calls()], expected[-most:])
        self.assertEqual(len(Kept(book(), most=50)), 0)

    def test_eight_by_default(self):
        kept = Kept(book())
        for many_nodes in range(9):
            kept.result(deep(many_nodes, T), [L])
        self.assertEqual(len(kept), 8)
        self.asked(kept, T, [L], False)
        self.asked(kept, deep(1, T), [L], False)

    def test_against_a_list(self):
        chance = random.Random(5)
        for most in [1, 3, 8]:
            kept, calls, hits, misses = Kept(book(), most=most), [], 0, 0
            for _ in range(600):
                term = chance.choice([T, BOX, use("box", BOX), union(T, I), use("none"), I])
                given = chance.choice([[I], [L], [union(I, L)], [use("none")], []])
                told = told_by(kept.result, term, given)
                self.assertEqual(told, told_by(applied, book(), term, given))
                call = (term, tuple(given))
                if told[0] == "returned":
                    hits += call in calls
                    misses += call not in calls
                    calls = ([other for other in calls if other != call] + [call])[-most:]
                self.assertEqual(self.state(kept), (hits, misses, len(calls), calls))

    def test_large_and_deep_calls(self):
        kept = Kept(Book(ENTRIES + [made_class("rows", "ts")]))
        term = T
        for _ in range(148):
            term = use("rows", row(term))
        for _ in range(2):
            self.assertEqual(kept.result(term, [I])[0], "rows")
        self.assertEqual((kept.hits, kept.misses), (1, 1))
        self.assertEqual(kept.turn(Book(ENTRIES + [made_class("rows", "ts")])), 0)


class Errors(Checks):

    def test_errors(self):
        kept = Kept(wide())
        kept.result(BOX, [I])
        before = self.state(kept)
        for term, given in [(None, [I]), (["box", [I]], [I]), (wrapped(300, I, tuple), []), (deep(150), []), (use("none"), []), (use("box"), [None]),
                            (BOX, []), (BOX, [I, L]), (BOX, [None]), (BOX, [[I]]), (BOX, [["int", ()]]), (BOX, [wrapped(300)]), (BOX, [row(I)]),
                            (BOX, [star("ts")]), (BOX, [use("none")]), (use("num", N), [S]), (use("tab", T, row(T)), [deep(80)]),
                            (use("tab", I, row(star("ts"))), [many(deep(149))]), (use("tab", I, row(star("ts"))), [I] * 150), (BOX, [True]),
                            (BOX, [{}]), (("box", [T]), [I])]:
            for _ in range(2):
                told = told_by(kept.result, term, given)
                self.assertEqual(told, told_by(applied, wide(), term, given))
                self.assertNotEqual(told[0], "returned")
                self.assertEqual(self.state(kept), before)
        for value in JUNK:
            self.assertEqual(told_by(kept.result, value, [I]), told_by(applied, wide(), value, [I]))
            if value != I and value != L:
                self.assertEqual(told_by(kept.result, BOX, [value])[0], told_by(applied, wide(), BOX, [value])[0])

    def test_rows_that_are_changed(self):
        kept = Kept(book())
        given = [I]
        self.asked(kept, BOX, given, False)
        given[0] = L
        self.assertEqual(kept.kept_calls(), [(BOX, (I,))])
        self.assertEqual(self.asked(kept, BOX, given, False), use("box", L))
        given.append(None)
        self.assertEqual(told_by(kept.result, BOX, given)[0], "WrongCount")
        self.assertEqual(self.asked(kept, BOX, [I], True), use("box", I))
        self.assertEqual(given, [L, None])

    def test_lists_that_are_changed(self):
        kept = Kept(book())
        kept.result(BOX, [I])
        kept.kept_calls().clear()
        kept.kept_calls().append((T, (I,)))
        self.assertEqual(kept.kept_calls(), [(BOX, (I,))])
        self.assertEqual(len(kept), 1)


class Turns(Checks):

    BEFORE = [made_class("int"), made_class("bool", base=I), made_class("str"), parameter("t"), parameter("n", "plain", ("int",)),
              parameter("u", "plain"), parameter("ts", "variadic"), made_class("box", "t"), made_class("num", "n"), made_class("tab", "t", "ts")]

    def book_with(self, **entries):
        return Book([entries.get(entry[1], entry) for entry in self.BEFORE if entries.get(entry[1], entry) is not None])

    def kept(self):
        kept = Kept(self.book_with())
        for term, given in [(BOX, [I]), (use("num", N), [L]), (N, [I]), (use("tab", T, row(star("ts"))), [I, L]), (use("tab", T, row(U)), [I, S]), (I, [])]:
            kept.result(term, given)
        return kept

    def check(self, dropped, **entries):
        kept = self.kept()
        calls, given = kept.kept_calls(), self.book_with(**entries)
        self.assertEqual(kept.turn(given), len(dropped))
        rest = [call for at, call in enumerate(calls) if at not in dropped]
        self.assertEqual(self.state(kept), (0, 6, len(rest), rest))
        for at, (term, values) in enumerate(calls):
            told = told_by(applied, given, term, list(values))
            self.assertEqual(told == told_by(applied, self.book_with(), term, list(values)), at not in dropped)
            self.assertEqual(told_by(kept.result, term, list(values)), told)
        self.assertEqual(kept.hits, len(rest))

    def test_other_books(self):
        self.check([])
        self.check([], str=made_class("str", base=I))
        self.check([1], num=None)
        self.check([1, 2], n=parameter("n", "plain", ("str",)))
        self.check([2], n=parameter("n", "plain", ("bool",)))
        self.check([0, 3, 4], t=parameter("t", "plain", ("str",)))
        self.check([0], box=made_class("box", "ts"))
        self.check([0], box=alias("box", ("t", "u"), T))
        self.check([], box=alias("box", ("t",), T))
        self.check([4], u=parameter("u", "signature"))
        self.check([4], u=parameter("u", "plain", ("int",)))
        self.check([4], u=made_class("u"))
        self.check([4], u=None)
        self.check([3, 4], tab=made_class("tab", "ts", "t"))

    def test_other_results(self):
        # The name of a parameter becomes that of a class, so another one takes the argument.
        kept = Kept(self.book_with())
        term = use("tab", U, row(T))
        kept.result(term, [I, S])
        self.assertEqual(kept.turn(self.book_with(u=made_class("u"))), 1)
        kept.result(term, [I])
        self.assertEqual(kept.turn(self.book_with()), 1)
        more = [parameter("us", "variadic")]
        kept = Kept(Book(self.BEFORE + more))
        term = use("tab", I, row(star("ts"), star("us")))
        kept.result(term, [I, L])
        self.assertEqual(kept.turn(Book(self.BEFORE + more)), 0)
        kept = Kept(self.book_with())
        kept.result(use("tab", T, row(U)), [I, S])
        kept.result(union(T, U), [I, S])
        self.assertEqual(kept.turn(self.book_with(u=made_class("u"))), 2)
        self.assertEqual(told_by(kept.result, union(T, U), [I]), ("returned", union(I, U)))

    def test_there_and_back(self):
        kept = self.kept()
        calls = kept.kept_calls()
        self.assertEqual(kept.turn(self.book_with(num=None)), 1)
        self.assertEqual(kept.turn(self.book_with()), 0)
        self.assertEqual(kept.kept_calls(), calls[:1] + calls[2:])
        self.asked(kept, use("num", N), [L], False)
        self.assertEqual(kept.turn(Book()), 6)
        self.assertEqual(self.state(kept), (0, 7, 0, []))
        self.assertEqual(told_by(kept.result, I, []), ("NoTerm", 0, "unknown"))

    def test_turn_keeps_order(self):
        kept = self.kept()
        kept.result(BOX, [I])
        calls = kept.kept_calls()
        kept.turn(self.book_with(num=None))
        self.assertEqual(kept.kept_calls(), [call for call in calls if call[0] != use("num", N)])
        self.assertEqual((kept.hits, kept.misses), (1, 6))


class Objects(Checks):

    def test_by_name(self):
        kept = Kept(most=2, book=book())
        self.assertEqual(kept.result(row=[I], term=BOX), use("box", I))
        self.assertEqual(kept.turn(book=book()), 0)
        with self.assertRaises(TypeError):
            Kept(book(), 8)
        for name in ["hits", "misses"]:
            with self.assertRaises(AttributeError):
                setattr(kept, name, 0)

    def test_objects_apart(self):
        given = book()
        one, other = Kept(given), Kept(given)
        one.result(BOX, [I])
        self.assertEqual(self.state(other), (0, 0, 0, []))
        self.assertNotEqual(one, other)
        for value in [None, [], 1, given, [(BOX, (I,))]]:
            self.assertIs(one == value, False)
