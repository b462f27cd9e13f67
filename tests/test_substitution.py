"""Promises 2, 3, 9 and 11: substituting, at once and by several steps."""

import copy
import itertools
import unittest

from aliasparams.books import Book
from aliasparams.fits import misfit, parameters
from aliasparams.substitution import applied, composed, filled, matched, substituted
from aliasparams.terms import equal, is_term, size
from tests import reference
from tests.samples import (
    I, JUNK, L, Maker, T, WIDE, arrow, deep, inputs, many, parameter, row, star, table_of, told_by, union, use, uses_of, wrapped)

S, N, U = use("str"), use("n"), use("u")
MORE = [entry for entry in WIDE if entry[1] not in ("both", "call", "lone")] + [parameter("u"), parameter("us", "variadic"), parameter("q", "signature")]
BOOK = Book(MORE)
TABLE = table_of(MORE)
ALL = use("task", inputs(T, star("ts"), many(U), tail="p"), use("tab", union(T, U, use("box", T)), row(star("us"), T, star("ts"))))

NAMES = {"count": "WrongCount", "argument": "NoArgument", "large": "TooLarge", "name": "NoName", "term": "NoTerm"}


def told_by_reference(function, *arguments):
    try:
        return "returned", function(TABLE, *arguments)
    except reference.Wrong as wrong:
        return NAMES[wrong.args[0]], *wrong.args[1:]


class Checks(unittest.TestCase):

    def check(self, term, mapping, *told):
        """What substituted tells, and filled with the same names too."""
        self.assertEqual(told_by(substituted, BOOK, term, mapping), told)
        if all(isinstance(name, str) for name in mapping):
            self.assertEqual(told_by(filled, BOOK, term, **mapping), told)


class Substituted(Checks):

    def test_plain(self):
        self.check(T, {"t": I}, "returned", I)
        self.check(T, {}, "returned", T)
        self.check(T, {"u": I}, "returned", T)
        self.check(use("box", T), {"t": union(I, L)}, "returned", use("box", union(I, L)))
        self.check(use("tab", T, row(T, many(T), star("ts"))), {"t": I}, "returned", use("tab", I, row(I, many(I), star("ts"))))
        self.check(arrow(inputs(T, tail="p"), T), {"t": arrow(inputs(), I)}, "returned",
                   arrow(inputs(arrow(inputs(), I), tail="p"), arrow(inputs(), I)))
        self.check(use("num", N), {"n": L}, "returned", use("num", L))

    def test_variadic(self):
        inside = use("tab", I, row(L, star("ts"), T))
        self.check(inside, {"ts": row()}, "returned", use("tab", I, row(L, T)))
        self.check(inside, {"ts": row(I)}, "returned", use("tab", I, row(L, I, T)))
        self.check(inside, {"ts": row(star("us"), many(I), star("ts"))}, "returned",
                   use("tab", I, row(L, star("us"), many(I), star("ts"), T)))
        self.check(use("tab", I, row(star("ts"), star("us"), star("ts"))), {"ts": row(I, L), "us": row()}, "returned",
                   use("tab", I, row(I, L, I, L)))
        self.check(arrow(inputs(star("ts"), tail="..."), I), {"ts": row(L, star("ts"))}, "returned",
                   arrow(inputs(L, star("ts"), tail="..."), I))

    def test_signature(self):
        inside = arrow(inputs(I, star("ts"), tail="p"), L)
        for value, found in [
                (inputs(), inputs(I, star("ts"))), (inputs(tail="..."), inputs(I, star("ts"), tail="...")),
                (inputs(tail="q"), inputs(I, star("ts"), tail="q")), (inputs(L, many(T)), inputs(I, star("ts"), L, many(T))),
                (inputs(star("us"), tail="p"), inputs(I, star("ts"), star("us"), tail="p"))]:
            self.check(inside, {"p": value}, "returned", arrow(found, L))
        self.check(use("task", inputs(tail="p"), I), {"p": inputs(I, tail="...")}, "returned", use("task", inputs(I, tail="..."), I))
        self.check(inside, {"ts": row(T), "p": inputs(star("ts"), tail="p")}, "returned",
                   arrow(inputs(I, T, star("ts"), tail="p"), L))

    def test_all_kinds_at_once(self):
        mapping = {"t": use("box", U), "u": T, "ts": row(star("us"), T), "us": row(star("ts")), "p": inputs(star("ts"), tail="q"),
                   "q": inputs(tail="p")}
        self.check(ALL, mapping, "returned", use(
            "task", inputs(use("box", U), star("us"), T, many(T), star("ts"), tail="q"),
            use("tab", union(use("box", U), T, use("box", use("box", U))), row(star("ts"), use("box", U), star("us"), T))))

    def test_exchanged(self):
        self.check(use("tab", T, row(U, T)), {"t": U, "u": T}, "returned", use("tab", U, row(T, U)))
        self.check(union(T, use("box", U)), {"t": use("box", T), "u": T}, "returned", use("box", T))
        self.check(use("tab", I, row(star("ts"), star("us"))), {"ts": row(star("us")), "us": row(star("ts"))}, "returned",
                   use("tab", I, row(star("us"), star("ts"))))

    def test_unions_become_joined(self):
        self.check(union(T, I), {"t": I}, "returned", I)
        self.check(union(T, I), {"t": union(L, I)}, "returned", union(L, I))
        self.check(union(I, T), {"t": union(L, I)}, "returned", union(I, L))
        self.check(union(T, use("box", T), use("box", I)), {"t": I}, "returned", union(I, use("box", I)))
        self.check(use("box", union(T, U, I)), {"t": I, "u": I}, "returned", use("box", I))
        self.check(union(arrow(inputs(), union(T, I)), arrow(inputs(), I)), {"t": I}, "returned", arrow(inputs(), I))
        one, other = use("box", union(I, L)), use("box", union(L, I))
        self.check(union(use("box", T), other), {"t": union(I, L)}, "returned", one)
        self.check(union(other, use("box", T)), {"t": union(I, L)}, "returned", other)
        self.check(union(use("box", union(T, L)), use("box", union(U, I))), {"t": I, "u": L}, "returned", one)
        # Values are not joined anew within themselves, nor substituted in.
        self.check(use("box", T), {"t": union(T, I)}, "returned", use("box", union(T, I)))

    def test_aliases_stay(self):
        self.check(use("same", T), {"t": use("same", I)}, "returned", use("same", use("same", I)))
        self.check(use("last", row(star("ts")), I), {"ts": row(I)}, "returned", use("last", row(I), I))

    def test_order_of_errors(self):
        wrong = {"t": None, "n": inputs(), "u": use("none"), "m": S}
        for value in [None, "t", row(), wrapped(300, I, tuple), deep(150), star("ts")]:
            self.check(value, {"none": I, **wrong}, "NoTerm", -1, "form")
        self.check(use("box", use("none")), {"none": I, **wrong}, "NoTerm", 1, "unknown")
        self.check(I, {**wrong, "none": I, "other": I}, "NoName", "none")
        self.check(I, {"other": None, **wrong, "none": I}, "NoName", "other")
        reasons = {"t": "form", "n": "kind", "u": "misfit", "m": "bound"}
        for names in itertools.permutations(wrong):
            for term in [I, T, use("tab", N, row(T, U, use("m")))]:
                self.check(term, {name: wrong[name] for name in names}, "NoArgument", names[0], reasons[names[0]])
                self.check(term, {"p": inputs(), **{name: wrong[name] for name in names}}, "NoArgument", names[0], reasons[names[0]])
        self.check(use("tab", T, row(*[T] * 100)), {"t": use("box", I), "n": S}, "NoArgument", "n", "bound")
        self.check(use("tab", T, row(*[T] * 100)), {"t": use("box", I), "n": I}, "TooLarge", 150)

    def test_names_that_are_none(self):
        for name in ["int", "box", "same", "none", "", "T", "abcdefg", 0, True, None, (), ("t",), ("t", ()), ((((1,),),),), b"t", 10 ** 39]:
            self.assertEqual(told_by(substituted, BOOK, I, {name: I}), ("NoName", name))
            self.assertEqual(told_by(substituted, BOOK, I, {"t": None, name: I, "x": I}), ("NoName", name))

    def test_values_that_suit_none(self):
        values = [value for value in JUNK if not reference.is_value(value)]
        for value in values + [wrapped(300), wrapped(320, I, tuple), deep(150), row(*[I] * 151), inputs(*[I] * 150, tail="p")]:
            for name in ["t", "ts", "p", "n"]:
                self.check(I, {name: value}, "NoArgument", name, "form")
        for name, value in [("t", row()), ("t", inputs()), ("n", row(use("none"))), ("ts", I), ("ts", inputs()), ("p", row()),
                            ("p", I), ("ts", use("none")), ("p", use("none"))]:
            self.check(I, {name: value}, "NoArgument", name, "kind")
        for name, value in [("t", use("box")), ("ts", row(star("t"))), ("ts", row(I, many(use("none")))), ("p", inputs(tail="ts")),
                            ("p", inputs(use("num", S))), ("n", use("box"))]:
            self.check(I, {name: value}, "NoArgument", name, "misfit")
        for name, value in [("n", S), ("m", I), ("n", union(I, S)), ("n", T), ("m", N), ("w", use("box", I)), ("n", arrow(inputs(), I))]:
            self.check(I, {name: value}, "NoArgument", name, "bound")
        self.check(row(*[I] * 150), {"ts": row(*[I] * 150)}, "NoTerm", -1, "form")
        self.check(I, {"ts": row(*[I] * 150), "p": inputs(*[I] * 149, tail="..."), "t": deep(149)}, "returned", I)

    def test_sizes(self):
        five = use("tab", T, row(*[T] * 4))
        self.check(five, {"t": deep(28)}, "returned", use("tab", deep(28), row(*[deep(28)] * 4)))
        self.check(five, {"t": deep(29)}, "TooLarge", 150)
        self.check(arrow(inputs(I, I, I), five), {"t": deep(28)}, "returned",
                   arrow(inputs(I, I, I), use("tab", deep(28), row(*[deep(28)] * 4))))
        self.check(arrow(inputs(I, I, I, I), five), {"t": deep(28)}, "TooLarge", 150)
        self.check(use("tab", I, row(star("ts"), star("ts"))), {"ts": row(*[I] * 74)}, "returned", use("tab", I, row(*[I] * 148)))
        self.check(use("tab", I, row(star("ts"), star("ts"))), {"ts": row(*[I] * 75)}, "TooLarge", 150)
        self.check(use("tab", I, row(L, star("ts"), star("ts"))), {"ts": row(*[I] * 74)}, "TooLarge", 150)
        self.check(arrow(inputs(tail="p"), I), {"p": inputs(*[I] * 147, tail="p")}, "returned", arrow(inputs(*[I] * 147, tail="p"), I))
        self.check(arrow(inputs(tail="p"), I), {"p": inputs(*[I] * 148, tail="p")}, "TooLarge", 150)
        self.check(arrow(inputs(tail="p"), I), {"p": inputs(*[I] * 148)}, "returned", arrow(inputs(*[I] * 148), I))
        self.check(T, {"t": deep(149)}, "returned", deep(149))
        self.check(use("box", T), {"t": deep(149)}, "TooLarge", 150)

    def test_sizes_with_what_joining_drops(self):
        given = union(I, deep(70))
        self.check(union(T, U, I), {"t": given, "u": given}, "returned", given)
        self.check(union(T, U, I), {"t": given, "u": union(I, deep(72))}, "returned", union(I, deep(70), deep(72)))
        # A union in a union is a node, and what is dropped counts.
        self.check(union(T, U), {"t": deep(73), "u": deep(73)}, "returned", deep(73))
        self.check(union(T, U), {"t": deep(73), "u": deep(74)}, "returned", union(deep(73), deep(74)))
        self.check(union(T, U), {"t": deep(74), "u": deep(74)}, "TooLarge", 150)
        self.check(union(T, U), {"t": union(I, deep(71)), "u": deep(73)}, "returned", union(I, deep(71), deep(73)))
        self.check(union(T, U), {"t": union(I, deep(71)), "u": deep(74)}, "returned", union(I, deep(71), deep(74)))
        self.check(union(T, U), {"t": union(I, deep(72)), "u": deep(74)}, "TooLarge", 150)

    def test_against_the_reference(self):
        maker = Maker(6, ["int", "bool", "t", "u", "n"], ["ts", "us"], ["p", "q"], uses_of(MORE))
        told = {}
        for _ in range(3000):
            term = maker.term(3)
            mapping = {}
            for name in maker.random.sample(["t", "u", "n", "m", "ts", "us", "p", "q"], maker.random.randint(0, 5)):
                mapping[name] = maker.value(TABLE[name][2], 2)
            found = told_by(substituted, BOOK, term, mapping)
            self.assertEqual(found, told_by_reference(reference.substituted, term, mapping))
            told[found[0]] = told.get(found[0], 0) + 1
            if found[0] == "returned":
                self.assertIs(is_term(found[1]), True)
                self.assertIsNone(misfit(BOOK, found[1]))
        self.assertGreater(told["returned"], 200)
        self.assertEqual(set(told), {"returned", "NoTerm", "NoArgument"})

    def test_nothing_is_changed(self):
        mapping = {"t": union(I, L), "ts": row(star("ts"), T)}
        before = copy.deepcopy((ALL, mapping))
        one, other = substituted(BOOK, ALL, mapping), substituted(mapping=mapping, term=ALL, book=BOOK)
        self.assertEqual(one, other)
        self.assertEqual((ALL, mapping), before)
        self.assertEqual(filled(term=ALL, book=BOOK, **mapping), one)
        self.assertEqual(filled(BOOK, ALL), ALL)
        self.assertEqual(filled(BOOK, ts=row(), term=use("tab", I, row(star("ts")))), use("tab", I, row()))


class InSteps(unittest.TestCase):
    """Substitution at once and by several steps, in any order."""

    def test_one_name_after_the_other(self):
        values = {"t": union(I, L), "u": use("box", I), "ts": row(many(I), L), "us": row(), "p": inputs(I, tail="...")}
        expected = substituted(BOOK, ALL, values)
        for names in itertools.permutations(values):
            found = ALL
            for name in names:
                found = substituted(BOOK, found, {name: values[name]})
            self.assertEqual(found, expected)

    def test_closed_values_in_any_order(self):
        maker = Maker(8, ["int", "bool", "t", "u", "n"], ["ts", "us"], ["p", "q"], {"box": ["plain"], "tab": ["plain", "variadic"]})
        values = {"t": union(I, L), "u": I, "n": L, "ts": row(I, union(L, I)), "us": row(), "p": inputs(L), "q": inputs(tail="...")}
        seen = 0
        for _ in range(400):
            term = maker.term(3)
            if told_by(misfit, BOOK, term) != ("returned", None) or size(term) > 40:
                continue
            expected = substituted(BOOK, term, values)
            self.assertEqual(parameters(BOOK, expected), ())
            names = maker.random.sample(list(values), len(values))
            at = maker.random.randint(0, len(names))
            first = {name: values[name] for name in names[:at]}
            second = {name: values[name] for name in names[at:]}
            self.assertEqual(substituted(BOOK, substituted(BOOK, term, first), second), expected)
            self.assertEqual(substituted(BOOK, term, composed(BOOK, first, second)), expected)
            seen += 1
        self.assertGreater(seen, 60)


class Applied(unittest.TestCase):

    def check(self, term, given, *told):
        self.assertEqual(told_by(applied, BOOK, term, given), told)

    def test_document(self):
        self.check(union(T, use("box", T), I), [union(L, I)], "returned", union(L, I, use("box", union(L, I))))

    def test_rows(self):
        self.check(I, [], "returned", I)
        term = use("tab", T, row(star("ts"), U))
        self.check(term, [I, L], "returned", use("tab", I, row(L)))
        self.check(term, [I, star("us"), many(I), L], "returned", use("tab", I, row(star("us"), many(I), L)))
        self.check(use("tab", U, row(T)), [I, L], "returned", use("tab", I, row(L)))
        self.check(use("task", inputs(star("ts"), tail="p"), T), [I, L, inputs(tail="q"), S], "returned",
                   use("task", inputs(I, L, tail="q"), S))
        self.check(use("tab", I, row(star("ts"), star("us"))), [I, L, S], "returned", use("tab", I, row(I, L, S)))
        self.check(use("tab", I, row(star("us"), T, star("ts"))), [I, L], "returned", use("tab", I, row(I, L)))

    def test_errors(self):
        self.check(None, [None] * 3, "NoTerm", -1, "form")
        self.check(use("box", use("none")), [], "NoTerm", 1, "unknown")
        self.check(use("box", T), [], "WrongCount", 0, 1)
        self.check(use("box", T), [None, None], "WrongCount", 2, 1)
        self.check(use("tab", T, row(star("ts"))), [], "WrongCount", 0, 1)
        self.check(use("tab", T, row(star("ts"))), [I, L, None], "NoArgument", 2, "form")
        self.check(use("num", N), [S], "NoArgument", 0, "bound")
        self.check(use("tab", I, row(star("ts"))), [I] * 148, "returned", use("tab", I, row(*[I] * 148)))
        self.check(use("tab", I, row(star("ts"))), [I] * 149, "TooLarge", 150)
        self.check(use("tab", I, row(star("ts"))), [I] * 151, "TooLarge", 150)
        self.check(use("tab", T, row(T)), [deep(80)], "TooLarge", 150)

    def test_as_matched_and_then_substituted(self):
        maker = Maker(9, ["int", "bool", "t", "u", "n"], ["ts", "us"], ["p", "q"], uses_of(MORE))
        told = {}
        for _ in range(3000):
            term = maker.term(2)
            given = maker.random.choice([maker.items(1), maker.items(1), [maker.inputs(1)], [maker.term(1)], [maker.term(1), maker.inputs(1)]])
            found = told_by(applied, BOOK, term, given)
            self.assertEqual(found, told_by_reference(reference.applied, term, given))
            told[found[0]] = told.get(found[0], 0) + 1
            if found[0] == "returned":
                mapping = matched(BOOK, parameters(BOOK, term), given)
                self.assertEqual(found[1], substituted(BOOK, term, mapping))
        self.assertGreater(told["returned"], 200)
        self.assertEqual(set(told), {"returned", "NoTerm", "WrongCount", "NoArgument"})

    def test_by_name_and_unchanged(self):
        given = [I, L]
        self.assertEqual(applied(row=given, term=use("tab", T, row(star("ts"))), book=BOOK), use("tab", I, row(L)))
        self.assertEqual(given, [I, L])


class Composed(unittest.TestCase):

    def check(self, first, second, *told):
        self.assertEqual(told_by(composed, BOOK, first, second), told)

    def test_mappings(self):
        self.check({}, {}, "returned", {})
        self.check({"t": I}, {}, "returned", {"t": I})
        self.check({}, {"t": I}, "returned", {"t": I})
        self.check({"t": U}, {"u": I}, "returned", {"t": I, "u": I})
        self.check({"t": U, "u": T}, {"t": I, "u": L}, "returned", {"t": L, "u": I})
        self.check({"t": union(T, U)}, {"t": I, "u": I}, "returned", {"t": I, "u": I})
        self.check({"ts": row(star("us"), T)}, {"us": row(I, L), "t": union(T, I), "q": inputs()}, "returned",
                   {"ts": row(I, L, union(T, I)), "us": row(I, L), "t": union(T, I), "q": inputs()})
        self.check({"p": inputs(star("ts"), tail="q")}, {"q": inputs(L, tail="..."), "ts": row()}, "returned",
                   {"p": inputs(L, tail="..."), "q": inputs(L, tail="..."), "ts": row()})
        self.check({"n": use("m")}, {"m": L}, "returned", {"n": L, "m": L})

    def test_errors(self):
        self.check({"t": None, "none": I}, {"other": I}, "NoName", "none")
        self.check({"t": None}, {"other": I}, "NoArgument", "t", "form")
        self.check({"n": S}, {"m": None}, "NoArgument", "n", "bound")
        self.check({"t": I}, {"u": use("none"), "other": I}, "NoName", "other")
        self.check({"t": I}, {"u": use("none")}, "NoArgument", "u", "misfit")
        self.check({"t": I}, {"u": row()}, "NoArgument", "u", "kind")
        self.check({"t": use("tab", U, row(U))}, {"u": deep(80)}, "TooLarge", 150)
        self.check({"t": use("tab", U, row(U))}, {"u": deep(80), "n": S}, "NoArgument", "n", "bound")
        self.check({"ts": row(T, T)}, {"t": deep(74)}, "returned", {"ts": row(deep(74), deep(74)), "t": deep(74)})
        self.check({"ts": row(T, T)}, {"t": deep(75)}, "TooLarge", 150)
        self.check({"t": union(U, use("box", I))}, {"u": deep(147)}, "TooLarge", 150)
        self.check({"t": union(U, I)}, {"u": deep(147)}, "returned", {"t": union(deep(147), I), "u": deep(147)})

    def test_one_after_the_other(self):
        maker = Maker(10, ["int", "t", "u", "n", "m"], ["ts", "us"], ["p", "q"], uses_of(MORE))
        names = ["t", "u", "n", "m", "ts", "us", "p", "q"]
        seen = 0
        while seen < 500:
            mappings = [{name: maker.value(TABLE[name][2], 1) for name in maker.random.sample(names, 3)} for _ in range(2)]
            found = told_by(composed, BOOK, *mappings)
            self.assertEqual(found, told_by_reference(reference.composed, *mappings))
            if found[0] != "returned":
                continue
            self.assertEqual(set(found[1]), set(mappings[0]) | set(mappings[1]))
            term = maker.term(2)
            first = told_by(substituted, BOOK, term, mappings[0])
            if first[0] == "returned":
                second = told_by(substituted, BOOK, first[1], mappings[1])
                once = told_by(substituted, BOOK, term, found[1])
                if second[0] == once[0] == "returned":
                    self.assertEqual(once, second)
                    self.assertIs(equal(once[1], second[1]), True)
                    seen += 1

    def test_by_name_and_unchanged(self):
        first, second = {"t": U}, {"u": I}
        found = composed(second=second, first=first, book=BOOK)
        found["t"] = None
        self.assertEqual((first, second), ({"t": U}, {"u": I}))
        same = composed(BOOK, {}, second)
        same["u"] = L
        self.assertEqual(second, {"u": I})
