"""Promises 2, 3 and 7: texts of terms, and terms read from texts."""

import copy
import re
import unittest

from aliasparams.books import Book
from aliasparams.errors import NoText
from aliasparams.terms import is_term
from aliasparams.texts import read, read_argument, show
from tests import reference
from tests.samples import (
    ENTRIES, FULL, I, JUNK, L, Maker, T, WIDE, arrow, book, deep, inputs, many, row, star, union, use, wide, wrapped)

N = use("n")
TABLE = {entry[1]: entry for entry in WIDE}
USES = {entry[1]: [TABLE[name][2] for name in entry[2]] for entry in WIDE if entry[0] != "parameter"}
SIGNS = " ,|->.*[]()abitX\n"

# A book whose uses have a row at each place, and nothing but a row, and no row.
ROWS = ENTRIES + [
    ("class", "r", ("ts",), None), ("class", "ra", ("ts", "t"), None), ("class", "arb", ("t", "ts", "p"), None),
    ("class", "ab", ("t", "p"), None), ("class", "s", ("p",), None), ("parameter", "u", "plain", None),
    ("alias", "rab", ("ts", "t", "p"), I), ("alias", "abr", ("t", "p", "ts"), I), ("alias", "no", (), I)]

# Texts with the terms that fit the book above.
PAIRS = [
    ("int", I),
    ("t", T),
    ("no", use("no")),
    ("box[int]", use("box", I)),
    ("box[box[t]]", use("box", use("box", T))),
    ("r[]", use("r", row())),
    ("r[int]", use("r", row(I))),
    ("r[*ts]", use("r", row(star("ts")))),
    ("r[*ts, *ts]", use("r", row(star("ts"), star("ts")))),
    ("r[int...]", use("r", row(many(I)))),
    ("r[r[]]", use("r", row(use("r", row())))),
    ("r[r[]...]", use("r", row(many(use("r", row()))))),
    ("ra[int]", use("ra", row(), I)),
    ("ra[int, bool]", use("ra", row(I), L)),
    ("ra[*ts, bool..., t, bool]", use("ra", row(star("ts"), many(L), T), L)),
    ("tab[int]", use("tab", I, row())),
    ("tab[int, bool, *ts]", use("tab", I, row(L, star("ts")))),
    ("arb[int, []]", use("arb", I, row(), inputs())),
    ("arb[int, bool, []]", use("arb", I, row(L), inputs())),
    ("arb[r[], [r[]]]", use("arb", use("r", row()), row(), inputs(use("r", row())))),
    ("rab[int, []]", use("rab", row(), I, inputs())),
    ("rab[*ts, int, []]", use("rab", row(star("ts")), I, inputs())),
    ("abr[int, []]", use("abr", I, inputs(), row())),
    ("abr[int, [], int, bool...]", use("abr", I, inputs(), row(I, many(L)))),
    ("s[[]]", use("s", inputs())),
    ("s[[...]]", use("s", inputs(tail="..."))),
    ("s[[**p]]", use("s", inputs(tail="p"))),
    ("s[[int, *ts, bool..., ...]]", use("s", inputs(I, star("ts"), many(L), tail="..."))),
    ("s[[t..., **p]]", use("s", inputs(many(T), tail="p"))),
    ("s[[int | bool, () -> t]]", use("s", inputs(union(I, L), arrow(inputs(), T)))),
    ("task[[int, **p], (...) -> bool]", use("task", inputs(I, tail="p"), arrow(inputs(tail="..."), L))),
    ("() -> int", arrow(inputs(), I)),
    ("(int) -> int", arrow(inputs(I), I)),
    ("(int, bool..., *ts) -> t", arrow(inputs(I, many(L), star("ts")), T)),
    ("(...) -> int", arrow(inputs(tail="..."), I)),
    ("(int, ...) -> int", arrow(inputs(I, tail="..."), I)),
    ("(int..., ...) -> int", arrow(inputs(many(I), tail="..."), I)),
    ("(**p) -> int", arrow(inputs(tail="p"), I)),
    ("(*ts, **p) -> int", arrow(inputs(star("ts"), tail="p"), I)),
    ("() -> () -> int", arrow(inputs(), arrow(inputs(), I))),
    ("(bool) -> (...) -> (int) -> t", arrow(inputs(L), arrow(inputs(tail="..."), arrow(inputs(I), T)))),
    ("(() -> int) -> int", arrow(inputs(arrow(inputs(), I)), I)),
    ("(() -> int, () -> int) -> int", arrow(inputs(arrow(inputs(), I), arrow(inputs(), I)), I)),
    ("((() -> int)...) -> int", arrow(inputs(many(arrow(inputs(), I))), I)),
    ("(int | bool) -> int", arrow(inputs(union(I, L)), I)),
    ("((int | bool)...) -> int", arrow(inputs(many(union(I, L))), I)),
    ("() -> (int | bool)", arrow(inputs(), union(I, L))),
    ("() -> () -> (int | bool)", arrow(inputs(), arrow(inputs(), union(I, L)))),
    ("() -> box[int | bool]", arrow(inputs(), use("box", union(I, L)))),
    ("int | bool", union(I, L)),
    ("bool | int | t", union(L, I, T)),
    ("(() -> int) | int", union(arrow(inputs(), I), I)),
    ("int | (() -> int)", union(I, arrow(inputs(), I))),
    ("(() -> int) | ((int) -> int)", union(arrow(inputs(), I), arrow(inputs(I), I))),
    ("(() -> (int | (() -> t))) | int", union(arrow(inputs(), union(I, arrow(inputs(), T))), I)),
    ("((() -> int) | t) -> ((() -> int) | t)", arrow(inputs(union(arrow(inputs(), I), T)), union(arrow(inputs(), I), T))),
    ("r[(int | bool)..., (() -> int)..., () -> int, int | bool]",
     use("r", row(many(union(I, L)), many(arrow(inputs(), I)), arrow(inputs(), I), union(I, L)))),
    ("r[(() -> (int | bool))...]", use("r", row(many(arrow(inputs(), union(I, L)))))),
    ("r[box[int | bool]...]", use("r", row(many(use("box", union(I, L)))))),
    ("box[int | box[int | bool] | (() -> t)]", use("box", union(I, use("box", union(I, L)), arrow(inputs(), T)))),
]

# Texts of items and of inputs as values.
ITEMS = [
    ("*ts", star("ts")), ("int...", many(I)), ("t...", many(T)), ("r[]...", many(use("r", row()))),
    ("(int | t)...", many(union(I, T))), ("(() -> int)...", many(arrow(inputs(), I))),
    ("((...) -> (int | bool))...", many(arrow(inputs(tail="..."), union(I, L)))),
    ("[]", inputs()), ("[...]", inputs(tail="...")), ("[**p]", inputs(tail="p")), ("[int]", inputs(I)),
    ("[int, *ts, (int | t)..., () -> int, **p]", inputs(I, star("ts"), many(union(I, T)), arrow(inputs(), I), tail="p")),
    ("[int | t, s[[]], ...]", inputs(union(I, T), use("s", inputs()), tail="...")),
]

# What looks like a text, but is none.
WRONG = [
    "", " ", "\n", ",", ", ", "|", " | ", "->", " -> ", ".", "..", "...", "....", "*", "**", "***", "**p", "(", ")", "[",
    "]", "()", "(]", "[)", "[[]]", "[()]", "([])", "() -> ", " -> int", "()->int", "() ->int", "()-> int", "() -> int ",
    " int", "int ", "int\n", "Int", "in t", "int int", "intint", "int1", "int.", "int..", "int....", "int......", "int ...",
    "(int)", "((int))", "(box[int])", "(int)...", "(int...)", "(*ts)", "(**p)", "*(ts)", "*ts...", "**p...", "*ts | int",
    "* ts", "*int", "*p", "*t", "*none", "*box[int]", "**ts", "*[]", "*[int]", "[]...", "[] | int", "[int]...", "[[int]]",
    "int[]", "int[int]", "t[]", "t[int]", "no[]", "box", "box[]", "box[", "box]", "box[int", "box[int]]", "box[[int]]",
    "box[(int)]", "box(int)", "box[int,]", "box[int, ]", "box[, int]", "box[,int]", "box[int,bool]", "box[int, bool]",
    "box [int]", "box[ int]", "box[int ]", "box[int...]", "box[*ts]", "box[...]", "box[[]]", "box[none]", "none", "ts", "p",
    "[int][int]", "box[int][int]", "r[][]", "r", "r[[]]", "r[, ]", "r[int, ]", "r[, int]", "r[int,bool]", "r[...]", "r[**p]",
    "r[*p]", "r[**ts]", "r[int, ...]", "ra", "ra[]", "ra[*ts]", "ra[int...]", "ra[, int]", "tab[]", "tab[, int]", "tab[int, ]",
    "tab[[], int]", "tab[int, []]", "tab[*ts, int]", "arb", "arb[]", "arb[int]", "arb[[]]", "arb[int, int]", "arb[int, , []]",
    "arb[[], int]", "rab[int]", "rab[[]]", "rab[[], int]", "abr[int]", "abr[int, int, []]", "s", "s[]", "s[int]", "s[int, bool]",
    "s[...]", "s[**p]", "s[()]", "s[(int)]", "s[[], []]", "s[[..., int]]", "s[[**p, int]]", "s[[..., ...]]", "s[[**p, **p]]",
    "s[[..., **p]]", "s[[**t]]", "s[[**ts]]", "s[[**none]]", "s[[**...]]", "s[[*...]]", "s[[*p]]", "s[[[]]]", "s[[int, ]]",
    "s[[, int]]", "s[[int,bool]]", "s[[int], ]", "s[[int, , bool]]", "(int, bool)", "(..., int) -> int", "(**p, int) -> int",
    "(int, ) -> int", "(, int) -> int", "(int,bool) -> int", "([]) -> int", "() -> []", "() -> ...", "() -> int...",
    "() -> *ts", "() -> **p", "() -> (int)", "() -> (() -> int)", "() -> int | bool", "int | () -> int", "(int | bool)",
    "(() -> int)", "(() -> int | bool) -> int", "((int | bool)) -> int", "((() -> int)) -> int", "() -> ((int | bool))",
    "int -> int", "[] -> int", "[int] -> int", "box[int] -> int", "() -> int -> int", "() () -> int", "() -> -> int",
    "int|bool", "int |bool", "int| bool", "int  |  bool", "int |  bool", "int | ", " | int", "int | | bool", "int |  | bool",
    "int | int", "bool | int | bool", "int | (bool)", "int | (bool | t)", "(int | bool) | t", "(int) | bool", "int | bool...",
    "int | *ts", "int | ...", "int | []", "int | none", "int | box", "box[int] | box[int]",
    "box[int | bool] | box[bool | int]", "((() -> int)) | int", "((int | bool))...", "((() -> int))...", "() -> int | (() -> int)",
    "use[int]", "int, bool", "int, ", ", int", "*ts, int", "int...,", "[int], int", "abcdefg", "->[]", "|[int, bool]",
]


class Showing(unittest.TestCase):

    def test_pairs(self):
        for text, term in PAIRS:
            self.assertEqual(show(term), text)

    def test_terms_that_fit_no_book(self):
        for term, text in [
                (use("x", row(), row()), "x[]"), (use("x", row(), I, row()), "x[int]"), (use("x", row(), I), "x[int]"),
                (use("x", I, row(), L), "x[int, bool]"), (use("x", row(), row(I), row(), row(L, T), row()), "x[int, bool, t]"),
                (use("x", inputs()), "x[[]]"), (use("x", row(), inputs()), "x[[]]"), (use("x", inputs(), row()), "x[[]]"),
                (use("x", inputs(), row(), inputs()), "x[[], []]"), (use("x", use("y", row()), row()), "x[y[]]"),
                (use("x", row(use("y", row()))), "x[y[]]"), (use("use", I), "use[int]"),
                (use("x", row(star("a"), many(use("y", row())))), "x[*a, y[]...]"),
                (arrow(inputs(star("int"), tail="int"), use("x", row())), "(*int, **int) -> x[]"),
                (FULL, "all[int, *ts, (int | bool)..., t, () -> int, [int, *ts, t..., bool | box[int], ...], [**p], "
                       "(tab[int, bool]) -> (((...) -> int) | t), box[int | bool] | box[int | t] | (() -> bool)]")]:
            self.assertIs(is_term(term), True)
            self.assertEqual(show(term), text)

    def test_large_terms(self):
        self.assertEqual(show(deep(149)), "box[" * 149 + "int" + "]" * 149)
        self.assertEqual(show(use("x", row(*[star("ts")] * 149))), "x[" + ", ".join(["*ts"] * 149) + "]")
        chain, text = I, "int"
        for _ in range(49):
            chain, text = arrow(inputs(many(chain)), T), f"({text}...) -> t" if text == "int" else f"(({text})...) -> t"
        self.assertEqual(show(chain), text)
        chain, text = arrow(inputs(), I), "() -> int"
        for _ in range(49):
            chain, text = arrow(inputs(), union(T, chain)), f"() -> (t | ({text}))"
        self.assertEqual(show(chain), text)

    def test_against_the_reference(self):
        maker = Maker(11, ["int", "t", "none"], ["ts", "x"], ["p"], {"box": ["plain"], "r": ["variadic"] * 2, **USES})
        for _ in range(1000):
            term = maker.term(5)
            self.assertEqual(show(term), reference.text(term))


class Reading(unittest.TestCase):

    def setUp(self):
        self.book = Book(ROWS)

    def refuse(self, function, value, given=None):
        with self.assertRaises(NoText) as caught:
            function(self.book if given is None else given, value)
        self.assertIs(caught.exception.text, value)

    def test_terms(self):
        for text, term in PAIRS:
            self.assertEqual(read(self.book, text), term)
            self.assertEqual(read_argument(self.book, text), term)

    def test_items_and_inputs(self):
        for text, item in ITEMS:
            self.assertEqual(read_argument(self.book, text), item)
            self.refuse(read, text)

    def test_wrong_texts(self):
        told = [text for text, _ in ITEMS]
        for text in WRONG:
            self.refuse(read, text)
            if text not in told:
                self.refuse(read_argument, text)
        self.assertFalse(set(told) & set(WRONG))

    def test_values_that_are_no_strings(self):
        values = [value for value in JUNK if not isinstance(value, str)]
        for value in values + [["int"], ("int",), {}, b"int", wrapped(320), wrapped(320, I, tuple)]:
            self.refuse(read, value)
            self.refuse(read_argument, value)

    def test_names_that_the_book_does_not_have(self):
        for text, value in PAIRS + ITEMS:
            for entries in [[], ENTRIES[:1], ENTRIES[:3], ENTRIES[:5]]:
                names = [entry[1] for entry in entries]
                if set(re.findall("[a-z]+", text)) <= set(names):
                    self.assertEqual(read_argument(Book(entries), text), value)
                else:
                    self.refuse(read_argument, text, Book(entries))

    def test_bounds(self):
        given = wide()
        for text in ["num[int]", "num[bool | n]", "num[same[int]]", "drop[t, m]", "both[str | w, t]"]:
            self.assertEqual(show(read(given, text)), text)
        for text in ["num[str]", "num[bool | str]", "num[same[t]]", "drop[int, t]", "both[t, int]", "box[num[str]]",
                     "() -> num[str]", "int | num[box[int]]"]:
            self.refuse(read, text, given)
        for text in ["num[str]...", "[num[str]]", "[int, num[str]..., ...]"]:
            self.refuse(read_argument, text, given)
        self.assertEqual(read_argument(given, "num[bool]..."), many(use("num", L)))

    def test_nodes(self):
        for nodes, right in [(148, True), (149, True), (150, False), (151, False)]:
            term = deep(nodes)
            flat = use("r", row(*[I] * nodes))
            for value in [term, flat]:
                if right:
                    self.assertEqual(read(self.book, reference.text(value)), value)
                    self.assertEqual(read_argument(self.book, reference.text(value)), value)
                else:
                    self.refuse(read, reference.text(value))
                    self.refuse(read_argument, reference.text(value))
            for value, more in [(many(deep(nodes - 1)), 1), (inputs(*[I] * (nodes + 1)), 0), (inputs(*[I] * nodes, tail="p"), 0),
                                (inputs(many(deep(nodes - 1))), 1), (inputs(*[many(I)] * ((nodes + 1) // 2)), 0)]:
                if right:
                    self.assertEqual(read_argument(self.book, reference.text(value)), value)
                elif nodes == 151:
                    self.refuse(read_argument, reference.text(value))

    def test_many_brackets(self):
        for many_times in [1000, 2000, 20000]:
            for text in ["[", "]", "(", ")", "[]", "()", "[(", "(]", "*", ".", "...", ", ", " | ", " -> ", "() -> ", "box[", "r[",
                         "int...", "(int)", "[int, ", "a", "**"]:
                self.refuse(read, text * many_times)
                self.refuse(read_argument, text * many_times)
        for opening, closing in ["[]", "()", ("box[", "]"), ("r[", "]"), ("s[[", "]]"), ("(", ") -> int"), ("((", ")...) -> int"),
                                 ("() -> (", " | int)"), ("r[(", ")...]"), ("(", ")..."), ("tab[int, ", "]"), ("tab[", "]")]:
            for inside in ["", "int", "*ts", "int | bool", "() -> int", "..."]:
                self.refuse(read, opening * 1000 + inside + closing * 1000)
                self.refuse(read_argument, opening * 1000 + inside + closing * 1000)
        self.refuse(read, "() -> " * 1000 + "int")
        self.refuse(read, " | ".join(["int"] * 1000))
        self.refuse(read, "r[" + ", ".join(["*ts"] * 1000) + "]")
        self.refuse(read_argument, "[" + ", ".join(["int..."] * 1000) + "]")
        self.assertEqual(show(read(self.book, "() -> " * 149 + "int")), "() -> " * 149 + "int")

    def test_many_wrong_uses(self):
        # Each of them stands twice in the one around it if it is put both
        # before and behind a row for which it is one value too few.
        self.refuse(read, "rab[" * 300 + "int" + "]" * 300)
        self.refuse(read, "arb[" * 300 + "int" + "]" * 300)


class Drawn(unittest.TestCase):
    """Drawn texts and changes of them, against the reference."""

    def setUp(self):
        self.book = wide()

    def fits(self, value):
        if value[0] == "()":
            return (reference.is_inputs(value) and len(reference.nodes(value)) <= 150
                    and reference.misfit(TABLE, use("task", value, I)) is None)
        if value[0] in ("*", "..."):
            return (reference.is_item(value) and len(reference.nodes(value)) <= 150
                    and reference.misfit(TABLE, use("tab", I, row(value))) is None)
        return reference.is_term(value) and reference.misfit(TABLE, value) is None

    def expected(self, text):
        try:
            value = reference.read(TABLE, text)
        except ValueError:
            return None
        return value if self.fits(value) else None

    def answer(self, function, text):
        try:
            return function(self.book, text)
        except NoText as error:
            self.assertEqual(error.text, text)
            return None

    def check(self, text):
        value = self.expected(text)
        self.assertEqual(self.answer(read_argument, text), value, text)
        is_argument = value is not None and value[0] in ("()", "*", "...")
        self.assertEqual(self.answer(read, text), None if is_argument else value, text)
        return value is not None

    def terms(self, seed, times, depth):
        maker = Maker(seed, ["int", "bool", "str", "t", "n", "m", "w", "lone"], ["ts"], ["p"], USES)
        found = [maker.term(depth) for _ in range(times)]
        return [term for term in found if self.fits(term)]

    def test_texts_are_read_back(self):
        found = self.terms(21, 600, 5)
        self.assertGreater(len(found), 200)
        for term in found:
            self.assertEqual(read(self.book, show(term)), term)
            self.assertEqual(read_argument(self.book, show(term)), term)
            self.assertIs(self.check(show(term)), True)

    def test_changed_signs(self):
        still = 0
        for term in self.terms(22, 24, 3):
            text = show(term)[:60]
            for at in range(len(text) + 1):
                still += self.check(text[:at] + text[at + 1:])
                for sign in SIGNS:
                    still += self.check(text[:at] + sign + text[at:])
                    still += self.check(text[:at] + sign + text[at + 1:])
        self.assertGreater(still, 20)

    def test_changed_pieces(self):
        new = ["", "()", "[]", "...", ", ", " | ", " -> ", "int", "t", "*ts", "**p", "() -> ", "box[", "tab[", "(", ")", "[", "]",
               "int | ", ", int", "last[", " "]
        for term in self.terms(23, 6, 3) + [inner for _, inner in PAIRS if self.fits(inner)][-6:]:
            text = show(term)[:60]
            for start in range(len(text)):
                for end in range(start, min(len(text), start + 5) + 1):
                    self.check(text[:end] + text[start:])
                    for piece in new:
                        self.check(text[:start] + piece + text[end:])

    def test_other_parentheses(self):
        for term in self.terms(24, 40, 3):
            text = show(term)
            if len(text) > 40:
                continue
            for start in range(len(text)):
                for end in range(start, len(text) + 1):
                    self.check(text[:start] + "(" + text[start:end] + ")" + text[end:])
                    if text[start] in "([" and text[end - 1:end] in (")", "]"):
                        self.check(text[:start] + text[start + 1:end - 1] + text[end:])


class Calls(unittest.TestCase):

    def test_by_name(self):
        self.assertEqual(show(term=use("box", I)), "box[int]")
        self.assertEqual(read(text="box[int]", book=book()), use("box", I))
        self.assertEqual(read_argument(book=book(), text="*ts"), star("ts"))

    def test_examples(self):
        self.assertEqual(show(("tab", (I, ("[]", (L, ("*", "ts")))))), "tab[int, bool, *ts]")
        self.assertEqual(read(book(), "task[[int, **p], (...) -> bool]"),
                         ("task", (("()", (("int", ()),), "p"), ("->", ("()", (), "..."), ("bool", ())))))

    def test_nothing_is_changed_or_shared(self):
        given, value = book(), ["int", ["int"]]
        for function in (read, read_argument):
            with self.assertRaises(NoText):
                function(given, value)
            self.assertEqual(value, ["int", ["int"]])
        self.assertEqual(given.entries(), ENTRIES)
        before = copy.deepcopy(FULL)
        show(FULL)
        self.assertEqual(FULL, before)
        self.assertEqual(read(given, "int"), I)
        self.assertEqual(read(given, "int"), I)

    def test_books_apart(self):
        one = Book([("parameter", "ts", "variadic", None), ("class", "a", ("ts",), None), ("class", "b", (), None)])
        other = Book([("parameter", "ts", "plain", None), ("class", "a", ("ts",), None), ("class", "b", (), None)])
        self.assertEqual(read(one, "a[b]"), use("a", row(use("b"))))
        self.assertEqual(read(other, "a[b]"), use("a", use("b")))
        self.assertEqual(read(one, "a[b]"), use("a", row(use("b"))))
