"""Promise 12: rows of arguments matched to parameters."""

import copy
import itertools
import unittest

from aliasparams.books import Book
from aliasparams.substitution import matched
from tests import reference
from tests.samples import (
    ENTRIES, I, JUNK, L, Maker, T, WIDE, arrow, book, deep, deep_in_rows, inputs, many, parameter, row, star, table_of,
    told_by, union, use, uses_of, wide, wrapped)

S = use("str")
MORE = WIDE + [parameter("us", "variadic")]
TABLE = table_of(MORE)


def told_by_reference(names, given):
    try:
        return "returned", reference.matched(TABLE, names, given)
    except reference.Wrong as wrong:
        kinds = {"count": "WrongCount", "argument": "NoArgument", "large": "TooLarge"}
        return kinds[wrong.args[0]], *wrong.args[1:]


class Matched(unittest.TestCase):

    def check(self, names, given, *told):
        self.assertEqual(told_by(matched, Book(MORE), names, given), told)

    def test_without_a_variadic_parameter(self):
        self.check((), [], "returned", {})
        self.check(("t",), [I], "returned", {"t": I})
        self.check(("p",), [inputs()], "returned", {"p": inputs()})
        self.check(("t", "p", "n"), [T, inputs(I, tail="p"), L], "returned", {"t": T, "p": inputs(I, tail="p"), "n": L})
        self.check(("n", "t"), [I, union(I, L)], "returned", {"n": I, "t": union(I, L)})

    def test_with_a_variadic_parameter(self):
        self.check(("ts",), [], "returned", {"ts": row()})
        self.check(("ts",), [I, star("ts"), many(L)], "returned", {"ts": row(I, star("ts"), many(L))})
        self.check(("ts", "t"), [I], "returned", {"ts": row(), "t": I})
        self.check(("ts", "t"), [I, L], "returned", {"ts": row(I), "t": L})
        self.check(("t", "ts"), [I, L, T], "returned", {"t": I, "ts": row(L, T)})
        self.check(("t", "ts", "n"), [I, L], "returned", {"t": I, "ts": row(), "n": L})
        self.check(("t", "ts", "n"), [I, star("ts"), S, L], "returned", {"t": I, "ts": row(star("ts"), S), "n": L})
        self.check(("p", "ts", "t", "n"), [inputs(), S, L, I], "returned", {"p": inputs(), "ts": row(S), "t": L, "n": I})

    def test_several_variadic_parameters(self):
        self.check(("ts", "us"), [I], "returned", {"ts": row(), "us": row(I)})
        self.check(("ts", "us"), [I, L, T], "returned", {"ts": row(I, L), "us": row(T)})
        self.check(("us", "ts"), [I, L, star("us")], "returned", {"us": row(I, L), "ts": row(star("us"))})
        self.check(("t", "ts", "n", "us"), [I, L, many(I)], "returned", {"t": I, "ts": row(), "n": L, "us": row(many(I))})
        self.check(("ts", "us"), [], "WrongCount", 0, 1)

    def test_counts(self):
        for names, needed in [((), 0), (("t",), 1), (("t", "p"), 2), (("t", "n", "w"), 3)]:
            for given in range(6):
                if given != needed:
                    self.check(names, [None] * given, "WrongCount", given, needed)
        for names, needed in [(("ts",), 0), (("t", "ts"), 1), (("ts", "us"), 1), (("t", "ts", "p", "us"), 3)]:
            for given in range(needed):
                self.check(names, [None] * given, "WrongCount", given, needed)
            for given in range(max(needed, 1), 7):
                self.check(names, [None] * given, "NoArgument", 0, "form")

    def test_forms(self):
        values = [value for value in JUNK if not reference.is_argument_form(value)]
        values += [row(), row(I), wrapped(300), wrapped(320, I, tuple), wrapped(300, row(), list), deep(150), deep_in_rows(150),
                   inputs(deep(149), I), many(deep(150)), many(many(I)), many(star("ts")), many(inputs()), union(I, I),
                   ("...", I, I), ["...", I], {}, ("*", "Ts"), use("box", wrapped(300, I, tuple))]
        for value in values:
            for name in ["t", "ts", "p", "n"]:
                self.check((name,), [value], "NoArgument", 0, "form")
            self.check(("t", "ts", "n"), [I, L, value, L], "NoArgument", 2, "form")

    def test_kinds(self):
        for name, values in [
                ("t", [star("ts"), many(I), inputs(), star("none"), star("t"), inputs(tail="none"), many(use("none")), many(deep(149))]),
                ("n", [star("ts"), many(S), inputs(use("none"))]),
                ("ts", [inputs(), inputs(I, tail="p"), inputs(tail="none")]),
                ("p", [I, use("none"), star("ts"), many(I), union(I, L), arrow(inputs(), I)])]:
            for value in values:
                self.check((name,), [value], "NoArgument", 0, "kind")
                self.check(("w", name), [I, value], "NoArgument", 1, "kind")

    def test_misfits(self):
        for value in [use("none"), use("box"), use("box", row()), use("num", S), use("p"), union(I, use("ts")), use("int", I),
                      arrow(inputs(tail="t"), I), deep(100, use("none"))]:
            for name in ["t", "n", "ts"]:
                self.check((name,), [value], "NoArgument", 0, "misfit")
            self.check(("ts",), [I, many(value)], "NoArgument", 1, "misfit")
            self.check(("p",), [inputs(value)], "NoArgument", 0, "misfit")
            self.check(("p",), [inputs(I, many(value), tail="p")], "NoArgument", 0, "misfit")
        self.check(("ts",), [many(deep(149, use("none")))], "NoArgument", 0, "misfit")
        self.check(("ts",), [star("t")], "NoArgument", 0, "misfit")
        self.check(("ts",), [star("none")], "NoArgument", 0, "misfit")
        self.check(("p",), [inputs(tail="ts")], "NoArgument", 0, "misfit")

    def test_bounds(self):
        for value in [S, use("box", I), T, arrow(inputs(), I), union(I, S), use("w"), use("same", S), use("lone")]:
            self.check(("n",), [value], "NoArgument", 0, "bound")
            self.check(("ts", "n", "m"), [value, value, value, L], "NoArgument", 2, "bound")
        for value in [I, L, union(I, L), use("n"), use("m"), use("same", I), use("drop", S, I), union(use("m"), I)]:
            self.check(("n",), [value], "returned", {"n": value})
        self.check(("m",), [use("m")], "returned", {"m": use("m")})
        self.check(("m",), [use("n")], "NoArgument", 0, "bound")

    def test_the_first_argument_that_fails(self):
        wrong = {"form": None, "kind": inputs(), "misfit": use("none"), "bound": S}
        for one, other in itertools.permutations(wrong, 2):
            self.check(("n", "m"), [wrong[one], wrong[other]], "NoArgument", 0, one)
            self.check(("t", "n", "m"), [I, wrong[one], wrong[other]], "NoArgument", 1, one)
        self.check(("ts", "n"), [I, star("none"), S], "NoArgument", 1, "misfit")
        self.check(("n", "ts"), [S, star("none")], "NoArgument", 0, "bound")

    def test_large_rows(self):
        self.check(("ts",), [deep(74), deep(74)], "returned", {"ts": row(deep(74), deep(74))})
        self.check(("ts",), [deep(74), deep(75)], "TooLarge", 150)
        self.check(("ts",), [I] * 150, "returned", {"ts": row(*[I] * 150)})
        self.check(("ts",), [I] * 151, "TooLarge", 150)
        self.check(("ts",), [many(deep(148))], "returned", {"ts": row(many(deep(148)))})
        self.check(("ts",), [many(deep(149))], "TooLarge", 150)
        self.check(("ts", "us"), [I, many(deep(149))], "TooLarge", 150)
        self.check(("ts", "us"), [*[I] * 150, many(deep(148))], "returned", {"ts": row(*[I] * 150), "us": row(many(deep(148)))})
        self.check(("ts", "t"), [*[I] * 151, None], "NoArgument", 151, "form")
        self.check(("ts", "n"), [many(deep(149)), S], "NoArgument", 1, "bound")
        self.check(("t", "p"), [deep(149), inputs(*[I] * 149, tail="...")], "returned",
                   {"t": deep(149), "p": inputs(*[I] * 149, tail="...")})

    def test_against_the_reference(self):
        maker = Maker(5, ["int", "bool", "str", "t", "n", "none"], ["ts", "us", "t"], ["p", "q"], uses_of(WIDE))
        names = ["t", "ts", "p", "n", "m", "us", "w"]
        told = {}
        for _ in range(4000):
            chosen = tuple(maker.random.sample(names, maker.random.randint(0, 4)))
            given = []
            for name in chosen:
                kind = TABLE[name][2]
                if kind == "signature":
                    given.append(maker.inputs(1))
                else:
                    given += maker.items(2) if kind == "variadic" else [maker.term(1)]
            if maker.random.random() < 0.2 and given:
                given[maker.random.randrange(len(given))] = maker.random.choice(JUNK)
            found = told_by(matched, wide_with_more, chosen, given)
            self.assertEqual(found, told_by_reference(chosen, given))
            told[found[0], found[-1] if found[0] == "NoArgument" else ""] = True
        self.assertEqual(len(told), 6)

    def test_by_name_and_unchanged(self):
        given = [I, L, many(I)]
        before = copy.deepcopy(given)
        found = matched(row=given, names=("t", "ts"), book=book())
        self.assertEqual(found, {"t": I, "ts": row(L, many(I))})
        found["t"] = None
        given_again = matched(book(), ("t", "ts"), given)
        self.assertEqual(given_again["t"], I)
        self.assertEqual(given, before)
        self.assertEqual(matched(wide(), ("n",), [L]), {"n": L})
        self.assertEqual(ENTRIES, book().entries())
        self.assertIs(type(matched(book(), (), [])), dict)


wide_with_more = Book(MORE)
