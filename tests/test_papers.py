"""Promises 3 and 16: claims, papers and the checker."""

import itertools
import time
import unittest

from aliasparams.alike import closed_values, have_same_shape, parting
from aliasparams.books import Book
from aliasparams.bounds import is_within
from aliasparams.checker import holds
from aliasparams.expansion import full_size
from aliasparams.papers import paper_of
from aliasparams.texts import read
from tests import reference
from tests.samples import (
    ENTRIES, I, JUNK, L, T, WIDE, alias, arrow, book, changed_everywhere, deep, inputs, made_class, many, parameter, row, star, table_of,
    told_by, union, use, wide, wrapped)

A, B, U, S = use("a"), use("b"), use("u"), use("str")

# Classes in a line, and parameters with bounds within and across it.
LINES = [made_class("a"), made_class("b", base=A), made_class("c", base=B), made_class("d"), parameter("t"), made_class("x", "t"),
         made_class("e", base=use("x", A)), parameter("ab", "plain", ("a", "b")), parameter("bc", "plain", ("b", "c")), parameter("cd", "plain", ("c", "d")),
         parameter("k", "plain", ("d",)), alias("or", ("t", "k"), union(T, use("k"), B)), alias("some", ("t",), use("x", T))]

PLAIN = [parameter("t"), parameter("u"), parameter("ts", "variadic"), parameter("p", "signature")]
PAIRS = [made_class("a"), made_class("b", base=A), *PLAIN, parameter("n", "plain", ("a",)), parameter("m", "plain", ("b",)),
         parameter("k", "plain", ("a", "b")), made_class("x", "t"), made_class("y", "t", "u"), made_class("r", "ts")]


def pair_of(one, other, entries=PAIRS):
    """A book with two aliases, each given by the names of its parameters and its body."""
    given = Book(entries)
    bodies = [body if isinstance(body, tuple) else read(given, body) for body in (one[-1], other[-1])]
    return Book([*entries, alias("one", one[:-1], bodies[0]), alias("two", other[:-1], bodies[1])])


def fresh(value):
    return "fresh", value


def chain(length, inside=A):
    for _ in range(length):
        inside = arrow(inputs(), inside)
    return inside


class Checks(unittest.TestCase):

    seen = 0

    def right(self, given, claim, *papers):
        for paper in papers:
            self.assertIs(holds(given, claim, paper), True, (claim, paper))
            self.assertIs(reference.is_paper(table_of(given.entries()), claim, paper), True)

    def wrong(self, given, claim, *papers):
        for paper in papers:
            self.assertIs(holds(given, claim, paper), False, (claim, paper))

    def check_true(self, given, claim):
        """A true claim; its paper."""
        paper = paper_of(given, claim)
        self.assertIsNotNone(paper, claim)
        self.right(given, claim, paper)
        self.assertEqual(paper_of(given, claim), paper)
        return paper

    def check_changes(self, given, claim, paper):
        """The checker says of each changed paper what the reference says."""
        table = table_of(given.entries())
        for other in itertools.chain(changed_everywhere(paper), [wrapped(300, paper, tuple), wrapped(300)]):
            self.seen += 1
            try:
                expected = reference.is_paper(table, claim, other)
            except (RecursionError, TypeError, AttributeError, IndexError, KeyError):
                expected = False
            self.assertIs(holds(given, claim, other), expected, (claim, other))


class Within(Checks):

    TERMS = [A, B, use("c"), use("d"), use("e"), T, use("ab"), use("bc"), use("cd"), use("k"), use("x", A), union(A, use("d")), union(B, use("bc")),
             union(use("c"), use("cd"), use("ab")), arrow(inputs(), A), union(A, arrow(inputs(), A)), use("or", B, use("k")),
             use("or", use("some", A), use("d")), use("or", use("bc"), use("d")), use("some", A)]
    BOUNDS = [("a",), ("b",), ("c",), ("d",), ("a", "d"), ("b", "d"), ("a", "b", "c", "d"), ("c", "d")]

    def test_papers_and_claims(self):
        given = Book(LINES)
        told = {True: 0, False: 0}
        for term in self.TERMS:
            for bound in self.BOUNDS:
                right = is_within(given, term, bound)
                told[right] += 1
                for kind, is_true in [("within", right), ("outside", not right)]:
                    claim = (kind, term, bound)
                    if is_true:
                        self.check_changes(given, claim, self.check_true(given, claim))
                    else:
                        self.assertIsNone(paper_of(given, claim))
        self.assertGreater(min(told.values()), 30)

    def test_chains(self):
        given = Book(LINES)
        claim = ("within", use("c"), ("a", "b"))
        self.right(given, claim, (("c", (("c", "b"),)),), (("c", (("c", "b", "a"),)),))
        self.wrong(given, claim, (("c", (("c",),)),), (("c", (("c", "a"),)),), (("c", (("b",),)),), (("c", (("c", "b", "a", "a"),)),),
                   (("c", (("c", "b"), ("c", "b"))),), (("c", ((),)),), (("c", ()),), (("b", (("b",),)),), (("c", ("c", "b")),),
                   (("c", (("c", "b"),)), ("c", (("c", "b"),))), (), ("c", (("c", "b"),)), [("c", (("c", "b"),))], (["c", (("c", "b"),)],),
                   (("c", [("c", "b")]),), (("c", (["c", "b"],)),), (("c", (("c", "b"),), ()),), None, wrapped(300))
        claim = ("within", use("bc"), ("a", "b"))
        self.right(given, claim, (("bc", (("b",), ("c", "b"))),), (("bc", (("b", "a"), ("c", "b", "a"))),))
        self.wrong(given, claim, (("bc", (("c", "b"), ("b",))),), (("bc", (("b",),)),), (("bc", (("b",), ("c", "b"), ("b",))),),
                   (("b", (("b",),)), ("c", (("c", "b"),))), (("bc", (("b",), ("b",))),))

    def test_heads(self):
        given = Book(LINES)
        term = union(use("d"), use("c"), A)
        parts = {"a": ("a", (("a",),)), "c": ("c", (("c", "b", "a"),)), "d": ("d", (("d",),))}
        claim = ("within", term, ("a", "d"))
        self.right(given, claim, tuple(parts.values()))
        for names in ["ac", "cd", "acdd", "aacd", "adc", "cad", "", "a", "abcd"]:
            self.wrong(given, claim, tuple(parts.get(name, ("b", (("b", "a"),))) for name in names))

    def test_heads_that_keep_no_bound(self):
        given = Book(LINES)
        for term, head in [(T, "t"), (arrow(inputs(), A), "->"), (use("x", A), "x"), (use("e"), "e"), (use("some", A), "x")]:
            claim = ("within", term, ("a",))
            self.wrong(given, claim, ((head, ()),), ((head, ((),)),), ((head, ((head,),)),), ((head, (("a",),)),), ((head, None),), ())
            self.assertIsNone(paper_of(given, claim))

    def test_outside(self):
        given = Book(LINES)
        claim = ("outside", use("c"), ("d",))
        self.right(given, claim, ("c", ("c", "b", "a")))
        self.wrong(given, claim, ("c", ("c", "b")), ("c", ("c",)), ("c", ()), ("b", ("b", "a")), ("c", ("b", "a")), ("c", ("c", "b", "a", "a")),
                   (("c", ("c", "b", "a")),), ["c", ("c", "b", "a")], ("c", ["c", "b", "a"]), ("c", ("c", "b", "a"), ()), ("c",), (), None,
                   ("c", (("c", "b", "a"),)), ("->", ()), wrapped(300))
        claim = ("outside", union(B, T, arrow(inputs(), A), use("x", A), use("cd"), use("e")), ("d",))
        self.right(given, claim, ("b", ("b", "a")), ("t", ()), ("->", ()), ("x", ()), ("e", ()), ("cd", ("c", "b", "a")))
        self.wrong(given, claim, ("cd", ("d",)), ("cd", ()), ("t", ("t",)), ("b", ()), ("x", ("x",)), ("d", ("d",)), ("a", ("a",)), ("some", ()))
        self.wrong(given, ("outside", use("cd"), ("a", "d")), ("cd", ("c", "b", "a")), ("cd", ("d",)), ("cd", ()))
        self.wrong(given, ("outside", use("c"), ("a",)), ("c", ("c", "b", "a")), ("c", ("c", "b")))
        self.right(given, ("outside", use("ab"), ("b",)), ("ab", ("a",)))
        self.wrong(given, ("outside", use("ab"), ("b",)), ("ab", ("b", "a")))

    def test_large_terms(self):
        entries = [made_class("a"), parameter("t"), made_class("y", "t"), alias("s", ("t",), union(T, use("y", T)))]
        term = A
        for _ in range(149):
            term = use("s", term)
        given = Book(entries)
        self.assertGreater(full_size(given, term), 10 ** 20)
        self.assertIs(holds(given, ("outside", term, ("a",)), ("y", ())), True)
        self.assertEqual(paper_of(given, ("outside", term, ("a",))), ("y", ()))
        self.assertIsNone(paper_of(given, ("within", term, ("a",))))
        self.right(Book(LINES), ("outside", use("x", chain(140)), ("a",)), ("x", ()))


class NoClaims(Checks):

    def no_claim(self, given, value):
        self.assertEqual(told_by(paper_of, given, value), ("NoClaim", value))
        for paper in [(), None, value]:
            self.assertEqual(told_by(holds, given, value, paper), ("NoClaim", value))

    def test_forms(self):
        given = wide()
        for value in JUNK + [wrapped(300), wrapped(310, I, tuple), {}, 10 ** 39]:
            self.no_claim(given, value)
            self.no_claim(given, (value, I, ("int",)))
            if value != ("int",):
                self.no_claim(given, ("within", I, value))
            self.no_claim(given, ("alike", value, "same"))
            self.no_claim(given, ("parted", "same", value))
            if told_by(paper_of, given, ("outside", value, ("int",)))[0] == "NoClaim":
                self.assertEqual(told_by(holds, given, ("within", value, ("int",)), ()), ("NoClaim", ("within", value, ("int",))))
            else:
                self.assertIsNone(reference.misfit(table_of(WIDE), value))
        for value in [("inside", "same", "same"), ("within", "same", "same"), ("Alike", "same", "same"), ("alike", I, ("int",)),
                      ("within", I), ("within", I, ("int",), ()), ["within", I, ("int",)], ("Within", I, ("int",)), ("inside", I, ("int",)),
                      ("within ", I, ("int",)), ("->", inputs(), I), ("alike", "same"), ("alike", "same", "same", "same"), ["alike", "same", "same"]]:
            self.no_claim(given, value)

    def test_terms_and_bounds(self):
        for kind in ["within", "outside"]:
            for term in [use("none"), use("box"), use("num", S), row(), inputs(), star("ts"), many(I), deep(150), ["int", ()], union(I, I), "int"]:
                self.no_claim(wide(), (kind, term, ("int",)))
            for bound in [(), ("bool", "bool"), ("int", "bool"), ["int"], "int", ("box",), ("lone",), ("none",), ("t",), None, (None,), ("int", None)]:
                self.no_claim(wide(), (kind, I, bound))
            self.no_claim(book(), (kind, use("drop", I, I), ("int",)))

    def test_aliases(self):
        given = pair_of(("t", "t"), ("t", "u", "t"))
        for kind in ["parted", "alike"]:
            for one, other in [("one", "two"), ("two", "one"), ("one", "none"), ("none", "one"), ("one", "t"), ("a", "one"), ("one", "One"), ("one", use("one"))]:
                self.no_claim(given, (kind, one, other))
            self.assertNotEqual(told_by(paper_of, given, (kind, "one", "one"))[0], "NoClaim")

    def test_full_sizes(self):
        entries = ENTRIES + [alias("five", ("t",), use("tab", T, row(*[T] * 4)))]
        thirty = arrow(inputs(I, I, I), use("five", use("box", use("box", use("box", use("box", T))))))
        given = Book(entries + [alias("one", ("t",), thirty), alias("two", ("t",), arrow(inputs(*[I] * 4), thirty[2])), alias("last", ("t",), T)])
        for kind in ["parted", "alike"]:
            for one, other in [("one", "two"), ("two", "one"), ("two", "last"), ("two", "two")]:
                self.no_claim(given, (kind, one, other))
        self.check_true(given, ("alike", "one", "one"))
        self.check_true(given, ("parted", "one", "last"))

    def test_claims_are_as_the_reference_says(self):
        given = Book(LINES)
        table = table_of(LINES)
        for claim in [("within", union(B, use("k")), ("a", "d")), ("outside", use("x", T), ("c",))]:
            for other in changed_everywhere(claim):
                expected = reference.is_claim(table, other)
                self.assertIs(told_by(paper_of, given, other)[0] == "returned", expected, other)
                self.assertIs(told_by(holds, given, other, ())[0] == "returned", expected)


class Parted(Checks):

    def test_rows(self):
        given = pair_of(("t", "ts", "y[t, t] | r[*ts]"), ("t", "ts", "y[t, a] | r[*ts]"))
        claim = ("parted", "one", "two")
        self.check_changes(given, claim, self.check_true(given, claim))
        self.right(given, claim, (B, row()), (B, row(A, many(B), union(A, B))), (use("x", A), row()), (union(A, B), row()), (chain(140), row()),
                   (B, row(*[A] * 150)), (chain(149), row(chain(149))))
        self.wrong(given, claim, (A, row()), (A, row(B)), (B,), (B, row(), row()), (), (row(), B), (B, inputs()), (B, A), [B, row()], (B, row(star("ts"))),
                   (T, row()), (use("one", A, row()), row()), (B, row(use("two", A, row()))), (B, row(many(use("one", A, row())))), (use("none"), row()),
                   (B, row(*[A] * 151)), (chain(150), row()), (use("x", B), row(use("x"))), (union(B, B), row()), (B, ["[]", ()]), wrapped(300), None,
                   (wrapped(300, I, tuple), row()), (B, wrapped(300)))
        self.assertIsNone(paper_of(given, ("alike", "one", "two")))

    def test_bounds(self):
        given = pair_of(("n", "t", "a"), ("m", "t", "a"))
        claim = ("parted", "one", "two")
        self.check_changes(given, claim, self.check_true(given, claim))
        # A value that suits only one of them is enough, whatever the others are.
        self.right(given, claim, (A, B), (union(A, B), chain(3)), (A, use("x", B)))
        self.wrong(given, claim, (B, A), (chain(2), A), (use("x", A), A))
        given = pair_of(("n", "k", "k"), ("k", "m", "m"))
        self.right(given, claim, (A, A), (chain(1), A), (use("x", A), union(A, B)))
        self.wrong(given, claim, (A, B), (B, B), (chain(1), B), (A, chain(1)))

    def test_values_that_suit_neither(self):
        given = pair_of(("n", "ts", "r[*ts, n]"), ("n", "ts", "r[n, *ts]"))
        claim = ("parted", "one", "two")
        self.right(given, claim, (A, row(B)), (union(A, B), row(A)))
        self.wrong(given, claim, (chain(1), row(B)), (use("x", A), row(B)), (A, row(A, A)))

    def test_any_size(self):
        given = pair_of(("t", "y[y[t, t], y[t, t]]"), ("t", "y[y[t, t], y[t, a]]"))
        self.right(given, ("parted", "one", "two"), (chain(149),), (use("r", row(*[A] * 149)),))

    def test_false_claims(self):
        for one, other in [(("t", "t | a"), ("u", "a | u")), (("a",), ("a",)), (("n", "n"), ("k", "k"))]:
            given = pair_of(one, other)
            self.assertIsNone(paper_of(given, ("parted", "one", "two")))
            self.wrong(given, ("parted", "one", "two"), (), (A,), (B,), None)

    def test_without_parameters(self):
        given = pair_of(("a",), ("b",))
        self.assertEqual(paper_of(given, ("parted", "one", "two")), ())
        self.right(given, ("parted", "one", "two"), ())
        self.wrong(given, ("parted", "one", "two"), (A,), [], None, "")
        self.assertIsNone(paper_of(given, ("alike", "one", "two")))
        self.wrong(given, ("alike", "one", "two"), ())


class Alike(Checks):

    CLAIM = ("alike", "one", "two")

    def test_fresh(self):
        given = pair_of(("t", "ts", "p", "(*ts, **p) -> (y[t, x[a]] | b)"), ("t", "ts", "p", "(*ts, **p) -> (b | y[t, x[a]])"))
        self.check_true(given, self.CLAIM)
        one, two, three = use("x", B), chain(1), use("r", row())
        self.check_changes(given, self.CLAIM, (fresh(one), fresh(row(two)), fresh(inputs(three))))
        self.right(given, self.CLAIM, (fresh(one), fresh(row(two)), fresh(inputs(three))), (fresh(three), fresh(row(one)), fresh(inputs(two))),
                   (fresh(chain(149)), fresh(row(one)), fresh(inputs(use("x", use("x", A))))))
        right = (fresh(one), fresh(row(two)), fresh(inputs(three)))
        for place, value in [
                (0, A), (0, B), (0, use("x", A)), (0, union(one, three)), (0, union(A, one)), (0, T), (0, use("u")), (0, row(one)), (0, inputs(one)), (0, two),
                (0, use("x", two)), (0, arrow(inputs(three), A)), (0, use("two", A, row(), inputs())), (0, use("none")), (0, chain(150)), (0, None), (0, wrapped(300)),
                (1, row()), (1, row(two, one)), (1, row(many(two))), (1, row(star("ts"))), (1, row(A)), (1, row(one)), (1, row(union(A, two))), (1, two),
                (1, inputs(two)), (1, ["[]", (two,)]), (2, inputs()), (2, inputs(three, tail="...")), (2, inputs(tail="...")), (2, inputs(three, tail="p")),
                (2, inputs(three, one)), (2, inputs(many(three))), (2, inputs(A)), (2, inputs(one)), (2, row(three)), (2, three)]:
            changed = list(right)
            changed[place] = fresh(value)
            table = table_of(given.entries())
            expected = value != wrapped(300) and value is not None and reference.is_paper(table, self.CLAIM, tuple(changed))
            self.assertIs(holds(given, self.CLAIM, tuple(changed)), expected, changed)
            if (place, value) not in [(0, use("x", two)), (0, arrow(inputs(three), A))]:
                self.assertIs(expected, False, (place, value))
        # A term may stand in another one of its own test only.
        self.wrong(given, self.CLAIM, (fresh(use("x", two)), fresh(row(two)), fresh(inputs(three))), (fresh(one), fresh(row(use("x", one))), fresh(inputs(three))),
                   right[:2], right + right[:1], list(right), right[::-1], (("Fresh", one), *right[1:]), ((one,), *right[1:]), (["fresh", one], *right[1:]),
                   (("fresh", one, one), *right[1:]), (("all", (one,)), *right[1:]), (one, row(two), inputs(three)), (), None, wrapped(300, (), tuple))

    def test_all(self):
        given = pair_of(("n", "t", "n | t | a | b"), ("k", "t", "t | b | a"))
        self.check_true(given, self.CLAIM)
        values = [A, B, union(A, B)]
        self.check_changes(given, self.CLAIM, (("all", tuple(values)), fresh(use("x", A))))
        for given_values in itertools.permutations(values):
            self.right(given, self.CLAIM, (("all", given_values), fresh(use("x", A))))
        self.right(given, self.CLAIM, (("all", (A, union(B, A), B)), fresh(chain(2))))
        for wrong in [(A, union(A, B), union(B, A)), (union(A, B), union(B, A), B), (A, B, B), (A, B), (A, union(A, B)), (), (A, B, union(A, B), A), (A, A, B), (A, B, union(A, B), union(B, A)), (A, B, union(A, B), chain(1)),
                      (A, B, chain(1)), (A, B, T), (A, B, use("n")), [A, B, union(A, B)], A, None, wrapped(300), (A, B, union(A, A)), (A, B, ["|", (A, B)])]:
            self.wrong(given, self.CLAIM, (("all", wrong), fresh(use("x", A))))
        self.wrong(given, self.CLAIM, (fresh(A), fresh(use("x", A))), (("all", tuple(values)), ("all", tuple(values))), (("all", tuple(values)), fresh(A)),
                   (fresh(use("x", B)), fresh(use("x", A))), (("all", tuple(values)),), (("all", tuple(values)), ("all", ())))

    def test_fresh_at_a_place_with_a_bound(self):
        given = pair_of(("m", "x[m]"), ("m", "x[m]"))
        self.right(given, self.CLAIM, (fresh(B),), (("all", (B,)),))
        self.wrong(given, self.CLAIM, (fresh(A),), (fresh(chain(1)),), (fresh(use("x", B)),))
        given = pair_of(("m", "x[m] | b"), ("m", "b | x[m]"))
        self.right(given, self.CLAIM, (("all", (B,)),))
        self.wrong(given, self.CLAIM, (fresh(B),))
        given = pair_of(("n", "k", "y[n, k]"), ("n", "k", "y[n, k]"))
        self.right(given, self.CLAIM, (fresh(A), fresh(B)), (fresh(B), fresh(A)), (("all", (A, B, union(A, B))), ("all", (A, B, union(A, B)))))
        # What a test with "all" puts into a body is there for the others.
        self.wrong(given, self.CLAIM, (fresh(A), ("all", (A, B, union(A, B)))), (fresh(A), fresh(A)), (fresh(A), fresh(union(A, B))))
        given = pair_of(("n", "k", "x[k]"), ("n", "k", "x[k]"))
        self.right(given, self.CLAIM, (("all", (A, B, union(A, B))), fresh(A)), (fresh(B), fresh(A)))

    def test_all_values_stand_in_bodies(self):
        given = pair_of(("k", "t", "x[k] | t"), ("k", "t", "t | x[k]"))
        everything = ("all", (A, B, union(A, B)))
        self.right(given, self.CLAIM, (everything, fresh(chain(1))), (everything, fresh(use("x", use("x", A)))))
        self.wrong(given, self.CLAIM, (everything, fresh(use("x", A))), (everything, fresh(use("x", B))), (everything, fresh(use("x", union(B, A)))),
                   (everything, fresh(A)))

    def test_bounds_that_are_not_alike(self):
        for one, other in [("n", "m"), ("m", "n"), ("t", "n"), ("n", "t"), ("k", "m"), ("m", "k")]:
            given = pair_of((one, "a"), (other, "a"))
            self.assertIsNone(paper_of(given, self.CLAIM))
            self.wrong(given, self.CLAIM, (fresh(B),), (("all", (B,)),), (("all", (A, B, union(A, B))),), (fresh(chain(2)),))
        for one, other in [("n", "k"), ("k", "n")]:
            given = pair_of((one, "a"), (other, "a"))
            self.check_changes(given, self.CLAIM, self.check_true(given, self.CLAIM))

    def test_bodies_that_are_not(self):
        given = pair_of(("k", "k | a"), ("k", "k"))
        self.wrong(given, self.CLAIM, (("all", (A, B, union(A, B))),), (fresh(A),), (fresh(B),))
        given = pair_of(("t", "x[t]"), ("t", "x[a]"))
        self.wrong(given, self.CLAIM, (fresh(A),), (fresh(chain(1)),), (fresh(B),))

    def test_without_parameters(self):
        given = pair_of(("a | b",), ("b | a",))
        self.assertEqual(paper_of(given, self.CLAIM), ())
        self.right(given, self.CLAIM, ())
        self.wrong(given, self.CLAIM, [], None, ((),), (fresh(A),), "", wrapped(300))

    def test_books_without_closed_terms(self):
        entries = [*PLAIN, made_class("x", "t")]
        for one, other in [(("t", "x[t]"), ("t", "t")), (("t", "ts", "(*ts) -> t"), ("u", "ts", "u")), (("t", "u", "t"), ("t", "u", "u"))]:
            given = pair_of(one, other, entries)
            self.assertEqual(paper_of(given, self.CLAIM), ())
            self.right(given, self.CLAIM, ())
            self.wrong(given, self.CLAIM, [], None, (fresh(T),), (fresh(T), fresh(row(T))), (("all", ()),), ((),), (("all", ()), ("all", ())))
            self.assertIsNone(paper_of(given, ("parted", "one", "two")))
            self.wrong(given, ("parted", "one", "two"), (), (T,), (use("x", T),), (T, row()))
        # With a closed term, the paper () shows nothing any more.
        given = pair_of(("t", "x[t]"), ("t", "x[t]"), [*PLAIN, made_class("x", "t"), made_class("a")])
        self.wrong(given, self.CLAIM, ())
        given = pair_of(("ts", "r[*ts]"), ("ts", "r[*ts]"), [*PLAIN, made_class("r", "ts")])
        self.wrong(given, self.CLAIM, ())
        self.check_true(given, self.CLAIM)

    def test_full_size_of_thirty(self):
        entries = [*[made_class(name) for name in "abcd"], *[parameter(name, "plain", tuple("abcd")) for name in "xyz"], parameter("t"), parameter("u"),
                   parameter("v"), made_class("tri", "t", "u", "v"), made_class("pr", "t", "u"),
                   alias("k", ("t", "u"), union(use("pr", T, U), use("pr", U, T), T, U))]
        given = pair_of(("x", "y", "z", "tri[k[x, y], k[y, z], k[z, x]]"), ("x", "y", "z", "tri[k[y, x], k[z, y], k[x, z]]"), entries)
        start = time.process_time()
        paper = paper_of(given, self.CLAIM)
        self.assertIs(holds(given, self.CLAIM, paper), True)
        self.assertLess(time.process_time() - start, 8)
        self.assertEqual([len(values) for _, values in paper], [15, 15, 15])
        shuffled = tuple((way, values[::-1]) for way, values in paper)
        self.assertIs(holds(given, self.CLAIM, shuffled), True)
        for place in range(3):
            short = [(way, values[1:] if at == place else values) for at, (way, values) in enumerate(paper)]
            self.assertIs(holds(given, self.CLAIM, tuple(short)), False)


class Random(Checks):

    def test_exactly_one_of_both_has_a_paper(self):
        from tests.test_parting import some_pair
        told = {"parted": 0, "alike": 0}
        papers = []
        for seed in range(300):
            entries, aliases = some_pair(seed)
            try:
                given = Book(entries + aliases)
            except ValueError:
                continue
            for one, other in [("one", "two"), ("two", "one"), ("one", "one")]:
                self.assertIs(have_same_shape(given, one, other), True)
                right = "alike" if parting(given, one, other) is None else "parted"
                wrong = "alike" if right == "parted" else "parted"
                paper = self.check_true(given, (right, one, other))
                self.assertIsNone(paper_of(given, (wrong, one, other)))
                self.wrong(given, (wrong, one, other), paper, *papers[-4:])
                told[right] += 1
                papers.append(paper)
            for paper in papers[-6:]:
                for kind in told:
                    expected = reference.is_paper(table_of(given.entries()), (kind, "one", "two"), paper) if self.fits(given, paper) else False
                    self.assertIs(holds(given, (kind, "one", "two"), paper), expected)
        self.assertGreater(min(told.values()), 100)

    def fits(self, given, paper):
        return len(paper) == len(given.entry("one")[2])


class Renamed(Checks):
    """Names replaced by others, one for each, throughout a book, its terms, claims and papers."""

    def renamed(self, value, names):
        if isinstance(value, (tuple, list)):
            return type(value)(self.renamed(inner, names) for inner in value)
        return names.get(value, value) if isinstance(value, str) else value

    def test_papers(self):
        names = {"a": "ca", "b": "cb", "c": "cc", "d": "cd", "cd": "zd", "t": "at", "u": "au", "ts": "b", "p": "c", "n": "bn", "m": "bm", "k": "bk", "x": "q",
                 "y": "z", "r": "a", "one": "two", "two": "one", "ab": "bab", "bc": "bbc", "e": "f", "or": "of", "some": "t"}
        given = pair_of(("n", "t", "ts", "y[n | a, t] | r[*ts]"), ("k", "u", "ts", "r[*ts] | y[a | k, u]"))
        other = Book(self.renamed(given.entries(), names))
        for claim in [("alike", "one", "two"), ("parted", "one", "two"), ("alike", "one", "one")]:
            paper = paper_of(given, claim)
            changed = self.renamed(claim, names)
            self.assertEqual(paper is None, paper_of(other, changed) is None)
            if paper is not None:
                self.assertIs(holds(other, changed, self.renamed(paper, names)), True)
                self.assertIs(holds(other, changed, paper), False)
        given, other = Book(LINES), Book(self.renamed(LINES, names))
        for term in Within.TERMS:
            for bound in Within.BOUNDS:
                for kind in ["within", "outside"]:
                    paper = paper_of(given, (kind, term, bound))
                    changed = (kind, self.renamed(term, names), self.renamed(bound, names))
                    self.assertEqual(paper is None, paper_of(other, changed) is None)
                    if paper is not None and kind == "outside":
                        self.assertIs(holds(other, changed, self.renamed(paper, names)), True)
                    elif paper is not None:
                        self.assertIs(holds(other, changed, tuple(sorted(self.renamed(paper, names)))), True)

    def test_by_name(self):
        given = Book(LINES)
        claim = ("within", B, ("a",))
        self.assertEqual(paper_of(claim=claim, book=given), (("b", (("b", "a"),)),))
        self.assertIs(holds(paper=(("b", (("b", "a"),)),), claim=claim, book=given), True)
        self.assertEqual(next(closed_values(given, "t")), A)

