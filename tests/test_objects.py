"""Aliases as objects: the class Alias."""

import copy
import unittest

from aliasparams.books import Book
from aliasparams.objects import Alias
from aliasparams.substitution import applied
from aliasparams.terms import arguments, equal, joined, origin
from aliasparams.texts import read_argument, show
from aliasparams.fits import parameters
from tests import reference
from tests.samples import (
    ENTRIES, FULL, I, JUNK, L, Maker, T, WIDE, arrow, book, deep, inputs, many, parameter, row, star, table_of, told_by, union, use,
    uses_of, wide, wrapped)

S, N = use("str"), use("n")
MANY = [I, T, N, use("box", T), use("tab", T, row(star("ts"), many(N), I)), use("tab", I, row()), use("same", use("box", T)),
        use("call", inputs(I, star("ts"), tail="p"), T), arrow(inputs(T, tail="p"), union(I, L)), arrow(inputs(tail="..."), I),
        union(T, I, use("box", N)), use("task", inputs(tail="p"), arrow(inputs(), T)), union(arrow(inputs(), I), L), deep(149)]
NO_TEXTS = [value for value in JUNK if not isinstance(value, str)] + [wrapped(300), wrapped(320, I, tuple), deep(150), {}, 10 ** 39, [T], ["int"]]


class Properties(unittest.TestCase):

    def test_properties(self):
        given = wide()
        for term in MANY:
            alias = Alias(given, term)
            self.assertEqual(alias.term, term)
            self.assertEqual(alias.origin, origin(term))
            self.assertEqual(alias.arguments, arguments(term))
            self.assertEqual(alias.parameters, parameters(given, term))
            self.assertIs(type(alias.parameters), tuple)
            self.assertEqual(len(alias), len(parameters(given, term)))
            self.assertIs(bool(alias), len(parameters(given, term)) > 0)
            self.assertEqual(str(alias), show(term))
            self.assertEqual(repr(alias), "Alias(" + show(term) + ")")
            for name in ["t", "ts", "p", "n", "m", "int", "box", "none"]:
                self.assertIs(name in alias, name in parameters(given, term))
            for value in JUNK + [wrapped(300), 10 ** 39, ["t"], {}]:
                self.assertIs(value in alias, False)
            for name in ["term", "origin", "arguments", "parameters"]:
                with self.assertRaises(AttributeError):
                    setattr(alias, name, None)

    def test_order_of_parameters(self):
        alias = Alias(wide(), use("tab", N, row(T, star("ts"), N)))
        self.assertEqual(alias.parameters, ("n", "t", "ts"))
        self.assertEqual(len(alias), 3)
        self.assertIs(bool(Alias(wide(), I)), False)
        self.assertEqual(len(Alias(wide(), I)), 0)

    def test_terms_that_are_none(self):
        for value in JUNK + [FULL, deep(150), wrapped(300, I, tuple), wrapped(310), use("num", S), use("box"), union(I, use("num", T))]:
            told = told_by(Alias, wide(), value)
            try:
                reference.check_term(table_of(WIDE), value)
                self.assertEqual(told[0], "returned")
            except reference.Wrong as wrong:
                self.assertEqual(told, ("NoTerm", *wrong.args[1:]))
            except RecursionError:
                self.assertEqual(told, ("NoTerm", -1, "form"))

    def test_equal(self):
        given = wide()
        for one in MANY:
            for other in MANY:
                self.assertIs(Alias(given, one) == Alias(wide(), other), equal(one, other))
                self.assertIs(Alias(given, one) != Alias(wide(), other), not equal(one, other))
        self.assertEqual(Alias(given, union(I, L)), Alias(given, union(L, I)))
        self.assertEqual(Alias(given, use("box", union(T, I, L))), Alias(given, use("box", union(L, T, I))))
        self.assertNotEqual(Alias(given, I), Alias(book(), I))
        self.assertNotEqual(Alias(book(), T), Alias(Book(ENTRIES[::1] + [parameter("zz")]), T))
        for value in [None, I, "int", "Alias(int)", 0, [], given, True]:
            self.assertIs(Alias(given, I) == value, False)
            self.assertIs(value == Alias(given, I), False)
            self.assertIs(Alias(given, I) != value, True)


class Of(unittest.TestCase):

    def test_entries(self):
        given = wide()
        for name, expected in [
                ("int", I), ("box", use("box", T)), ("tab", use("tab", T, row(star("ts")))), ("task", use("task", inputs(tail="p"), T)),
                ("t", T), ("n", N), ("num", use("num", N)), ("lone", use("lone")), ("same", use("same", T)), ("drop", use("drop", T, N)),
                ("both", use("both", use("w"), T)), ("call", use("call", inputs(tail="p"), T)), ("last", use("last", row(star("ts")), N))]:
            found = Alias.of(given, name)
            self.assertIs(type(found), Alias)
            self.assertEqual(found.term, expected)
            self.assertEqual(found, Alias(given, expected))
            if given.entry(name)[0] != "parameter":
                self.assertEqual(found.parameters, given.entry(name)[2])
        self.assertEqual(Alias.of(name="tab", book=given).term, use("tab", T, row(star("ts"))))

    def test_names_that_are_none(self):
        for value in JUNK + ["ts", "p", "none", "ints", "T", wrapped(300), ["int"], {}, I, 10 ** 39]:
            if value != "int":
                self.assertEqual(told_by(Alias.of, wide(), value), ("NoName", value))
                self.assertEqual(told_by(Alias.of, Book(), value), ("NoName", value))


class WithArguments(unittest.TestCase):

    def check(self, alias, values, *told):
        found = told_by(alias.with_arguments, *values)
        if told[0] == "returned":
            self.assertEqual(found[1].term, told[1])
            self.assertEqual(found[1], Alias(wide(), told[1]))
        else:
            self.assertEqual(found, told)

    def test_texts(self):
        tab = Alias.of(wide(), "tab")
        self.check(tab, ["int"], "returned", use("tab", I, row()))
        self.check(tab, ["int", "bool...", "*ts", "(int) -> t"], "returned",
                   use("tab", I, row(many(L), star("ts"), arrow(inputs(I), T))))
        self.check(Alias.of(wide(), "call"), ["[int, **p]", "int | bool"], "returned", use("call", inputs(I, tail="p"), union(I, L)))
        self.check(Alias.of(wide(), "task"), ["[...]", "t"], "returned", use("task", inputs(tail="..."), T))
        self.check(Alias(wide(), I), [], "returned", I)
        self.check(Alias(wide(), union(T, I)), ["int"], "returned", I)

    def test_aliases(self):
        tab = Alias.of(wide(), "tab")
        self.check(tab, [Alias(wide(), L)], "returned", use("tab", L, row()))
        self.check(tab, [Alias(wide(), L), "int", tab], "returned", use("tab", L, row(I, use("tab", T, row(star("ts"))))))
        self.check(tab, [tab.with_arguments("int"), tab], "returned", use("tab", use("tab", I, row()), row(tab.term)))

    def test_values_that_are_no_arguments(self):
        tab = Alias.of(wide(), "tab")
        for value in [*NO_TEXTS, Alias(book(), I), Alias(Book(WIDE[:-1]), I), "", "none", "int ", "[", "int[", "[int", "**p", "...", "x" * 2000, "(" * 2000]:
            for values in [[value], ["int", value], [value, value, value], [value, "none"], ["int", "int...", value, 0]]:
                first = [other for other in values if other != "int" and other != "int..."][0]
                self.check(tab, values, "NoText", first)
                self.check(Alias(wide(), I), values, "NoText", first)
                self.check(Alias(wide(), use("box", N)), values, "NoText", first)

    def test_then_errors_of_applied(self):
        box, num, tab = [Alias.of(wide(), name) for name in ["box", "num", "tab"]]
        self.check(box, [], "WrongCount", 0, 1)
        self.check(box, ["int", "int"], "WrongCount", 2, 1)
        self.check(tab, [], "WrongCount", 0, 1)
        self.check(Alias(wide(), I), ["int"], "WrongCount", 1, 0)
        self.check(box, ["*ts"], "NoArgument", 0, "kind")
        self.check(box, ["int..."], "NoArgument", 0, "kind")
        self.check(tab, ["int", "[]"], "NoArgument", 1, "kind")
        self.check(num, ["str"], "NoArgument", 0, "bound")
        self.check(num, [Alias(wide(), use("box", I))], "NoArgument", 0, "bound")
        large = Alias(wide(), deep(149))
        self.check(box, [large], "TooLarge", 150)
        self.check(Alias(wide(), T), [large], "returned", deep(149))
        self.check(tab, ["int", large, "int"], "TooLarge", 150)

    def test_text_of_an_argument(self):
        given = wide()
        for text in ["int", "t", "int | bool", "*ts", "int...", "(int | bool)...", "[int, **p]", "[...]", "[]"]:
            argument = read_argument(given, text)
            for name in ["box", "tab", "task", "last"]:
                alias = Alias.of(given, name)
                for values, texts in [([argument], [text]), ([I, argument], ["int", text]), ([argument, I], [text, "int"])]:
                    told, expected = told_by(alias.with_arguments, *texts), told_by(applied, given, alias.term, values)
                    self.assertEqual(told[1].term if told[0] == "returned" else told, expected[1] if told[0] == "returned" else expected)

    def test_objects_apart(self):
        tab = Alias.of(wide(), "tab")
        one = tab.with_arguments("int")
        self.assertEqual(str(tab), "tab[t, *ts]")
        self.assertEqual(str(one), "tab[int]")
        self.assertIsNot(Alias(wide(), I), Alias(wide(), I))
        term = copy.deepcopy(tab.term)
        tab.joined_with(one)
        self.assertEqual(tab.term, term)


class JoinedWith(unittest.TestCase):

    def test_terms(self):
        given = wide()
        terms = [I, L, T, union(I, L), union(L, I), use("box", union(I, L)), use("box", union(L, I)), arrow(inputs(), T), union(use("box", T), I)]
        for one in terms:
            for other in terms:
                found = Alias(given, one).joined_with(Alias(wide(), other))
                self.assertEqual(found.term, joined(one, other))
                self.assertEqual(found, Alias(given, joined(one, other)))
        self.assertEqual(str(Alias(given, union(L, T)).joined_with(other=Alias(given, union(I, L)))), "bool | t | int")
        box = Alias(given, use("box", union(I, L)))
        self.assertEqual(str(box.joined_with(Alias(given, use("box", union(L, I))))), "box[int | bool]")

    def test_other_values(self):
        for value in [*NO_TEXTS, "int", Alias(book(), I)]:
            found = told_by(Alias(wide(), I).joined_with, value)
            self.assertEqual(found[0], "NoText")
            self.assertEqual(found[1:], (value,))


class InSteps(unittest.TestCase):

    def test_beside_the_functions_of_terms(self):
        given = wide()
        maker = Maker(20, ["int", "bool", "t", "n", "w"], ["ts"], ["p"], uses_of(WIDE))
        seen = 0
        while seen < 150:
            term = maker.term(2)
            if told_by(Alias, given, term)[0] != "returned":
                continue
            alias = Alias(given, term)
            for _ in range(3):
                values = [maker.random.choice(["int", "t", "n | bool", "*ts", "int...", "[int, **p]", "box[w]", "str"])
                          for _ in range(maker.random.randint(0, 3))]
                told = told_by(alias.with_arguments, *values)
                expected = told_by(applied, given, term, [read_argument(given, text) for text in values])
                self.assertEqual(told[0], expected[0])
                if told[0] != "returned":
                    self.assertEqual(told, expected)
                    continue
                alias, term = told[1].joined_with(Alias(given, I)), joined(expected[1], I)
                self.assertEqual((alias.term, str(alias), alias.parameters), (term, show(term), parameters(given, term)))
                seen += 1

    def test_document(self):
        given = book()
        tab = Alias.of(given, "tab")
        more = tab.with_arguments("int", "bool...")
        self.assertEqual([str(tab), str(more), str(tab.with_arguments("t").joined_with(Alias(given, I))), len(tab)],
                         ["tab[t, *ts]", "tab[int, bool...]", "tab[t] | int", 2])
        self.assertEqual(str(Alias(term=I, book=given)), "int")
