"""Promises 3, 9 and 11: expanded terms and their full sizes."""

import copy
import unittest

from aliasparams.books import Book
from aliasparams.errors import NoBook, NoTerm, TooLarge
from aliasparams.expansion import expanded, full_size, same
from aliasparams.fits import misfit, parameters
from aliasparams.replacing import replaced
from aliasparams.terms import equal, is_term, size
from tests import reference
from tests.samples import (
    ENTRIES, I, JUNK, L, Maker, T, WIDE, arrow, book, deep, inputs, many, row, star, union, use, wide, wrapped)

S = use("str")
N = use("n")

# Aliases of aliases, with parameters of each kind, some of which they leave out.
MORE = WIDE[:8] + [
    ("parameter", "n", "plain", ("int",)), ("class", "num", ("n",), None), ("class", "r", ("ts",), None),
    ("alias", "same", ("t",), T), ("alias", "drop", ("t", "n"), N), ("alias", "or", ("t",), union(T, I)),
    ("alias", "rows", ("ts", "t"), use("tab", use("or", T), row(star("ts"), many(T), star("ts")))),
    ("alias", "call", ("p", "t", "ts"), arrow(inputs(use("or", T), star("ts"), tail="p"), use("same", T))),
    ("alias", "calls", ("p", "ts"), use("call", inputs(I, star("ts"), tail="p"), use("rows", row(star("ts")), L),
                                        row(star("ts"), I))),
    ("alias", "five", ("t",), use("r", row(*[T] * 5))),
    ("alias", "left", ("ts", "p", "t"), use("drop", use("call", inputs(star("ts"), tail="p"), T, row()), I)),
]
TABLE = {entry[1]: entry for entry in MORE}
USES = {entry[1]: [TABLE[name][2] for name in entry[2]] for entry in MORE if entry[0] != "parameter"}


def outer_first(table, part):
    """An expanded part, the outer aliases replaced before the inner ones."""
    if part[0] in ("[]", "()"):
        return (part[0], tuple(outer_first(table, item) for item in part[1])) + part[2:]
    if part[0] == "*":
        return part
    if part[0] in ("->", "..."):
        return (part[0],) + tuple(outer_first(table, inner) for inner in part[1:])
    if part[0] == "|":
        return reference.joined([outer_first(table, inner) for inner in part[1]])
    entry = table[part[0]]
    if entry[0] == "alias":
        return outer_first(table, reference.put(entry[3], dict(zip(entry[2], part[1]))))
    return part[0], tuple(outer_first(table, inner) for inner in part[1])


class Checks(unittest.TestCase):

    def too_large(self, function, *arguments):
        with self.assertRaises(TooLarge) as caught:
            function(*arguments)
        self.assertEqual(caught.exception.limit, 150)

    def no_term(self, number, reason, function, *arguments):
        with self.assertRaises(NoTerm) as caught:
            function(*arguments)
        self.assertEqual((caught.exception.number, caught.exception.reason), (number, reason))


class Expanding(Checks):

    def test_terms_without_aliases(self):
        given = Book(MORE)
        for term in [I, T, N, use("box", union(I, L)), use("tab", T, row(star("ts"), many(L))), use("r", row()),
                     arrow(inputs(many(T), tail="p"), arrow(inputs(tail="..."), L)), union(arrow(inputs(), I), T, use("num", N))]:
            self.assertEqual(expanded(given, term), term)
            self.assertEqual(full_size(given, term), size(term))

    def test_aliases(self):
        given = Book(MORE)
        for term, found, nodes in [
                (use("same", I), I, 1), (use("same", use("same", T)), T, 1), (use("box", use("same", I)), use("box", I), 2),
                (use("drop", use("box", T), L), L, 1), (use("or", T), union(T, I), 3), (use("or", I), I, 3),
                (use("or", union(I, L)), union(I, L), 5), (use("or", union(L, I)), union(L, I), 5),
                (union(use("or", T), L), union(T, I, L), 5), (union(L, use("or", L)), union(L, I), 5),
                (union(use("same", I), I), I, 3), (union(I, use("same", I), use("drop", L, I)), I, 4),
                (union(use("same", L), I, use("same", union(I, T))), union(L, I, T), 6),
                (use("or", use("or", use("or", L))), union(L, I), 7),
                (use("same", union(use("same", L), use("or", L))), union(L, I), 5),
                (use("five", T), use("r", row(*[T] * 5)), 6), (use("five", use("five", I)), use("r", row(*[use("r", row(*[I] * 5))] * 5)), 31),
                (use("rows", row(), L), use("tab", union(L, I), row(many(L))), 6),
                (use("rows", row(use("same", T), star("ts")), use("same", I)), use("tab", I, row(T, star("ts"), many(I), T, star("ts"))), 10),
                (use("call", inputs(), L, row()), arrow(inputs(union(L, I)), L), 5),
                (use("call", inputs(T, tail="..."), I, row(many(T))), arrow(inputs(I, many(T), T, tail="..."), I), 9),
                (use("call", inputs(many(use("same", L)), tail="p"), T, row(star("ts"))),
                 arrow(inputs(union(T, I), star("ts"), many(L), tail="p"), T), 9),
                (use("left", row(star("ts")), inputs(tail="p"), use("five", T)), I, 1),
                (use("num", use("drop", T, L)), use("num", L), 2),
                (use("task", inputs(use("same", I), many(use("or", L)), tail="p"), use("same", L)),
                 use("task", inputs(I, many(union(L, I)), tail="p"), L), 8),
                (use("tab", use("same", T), row(star("ts"), many(use("same", T)), use("or", I))),
                 use("tab", T, row(star("ts"), many(T), I)), 8)]:
            self.assertEqual(expanded(given, term), found)
            self.assertEqual(full_size(given, term), nodes)
            self.assertIs(same(given, term, found), True)

    def test_which_member_stays(self):
        given = Book(MORE)
        one, other = use("box", union(I, L)), use("box", union(L, I))
        self.assertEqual(expanded(given, union(use("same", one), other)), one)
        self.assertEqual(expanded(given, union(use("same", other), T, one)), union(other, T))
        self.assertEqual(expanded(given, use("same", union(use("same", T), other, use("same", one)))), union(T, other))
        self.assertEqual(expanded(given, union(L, use("or", T), use("same", union(T, L)))), union(L, T, I))

    def test_against_the_reference(self):
        given = Book(MORE)
        seen = 0
        for seed in range(12):
            maker = Maker(seed, ["int", "bool", "t", "n"], ["ts"], ["p"], USES)
            for _ in range(100):
                term = maker.term(4)
                if not reference.is_term(term) or reference.misfit(TABLE, term) is not None:
                    continue
                sizes = [reference.full_size(TABLE, inner) for inner in reference.terms_in(term)]
                self.assertEqual(full_size(given, term), sizes[0])
                if max(sizes) > 150:
                    self.too_large(expanded, given, term)
                    continue
                found = expanded(given, term)
                self.assertEqual(found, reference.expanded(TABLE, term))
                self.assertEqual(found, outer_first(TABLE, term))
                self.assertIs(is_term(found), True)
                self.assertIsNone(misfit(given, found))
                self.assertLessEqual(set(parameters(given, found)), set(parameters(given, term)))
                self.assertEqual(expanded(given, found), found)
                seen += 1
        self.assertGreater(seen, 400)

    def test_substitution_before_or_after(self):
        given = Book(MORE)
        maker = Maker(50, ["int", "bool", "t", "n"], ["ts"], ["p"], USES)
        mappings = [{"t": union(L, I)}, {"t": use("same", N), "n": use("drop", T, L)}, {"ts": row()}, {"p": inputs()},
                    {"ts": row(use("or", T), star("ts")), "p": inputs(many(use("same", T)), tail="...")}]
        seen = 0
        for at in range(300):
            term = maker.term(3)
            if not reference.is_term(term) or reference.misfit(TABLE, term) is not None or full_size(given, term) > 60:
                continue
            mapping = mappings[at % len(mappings)]
            try:
                one = expanded(given, replaced(term, mapping))
                inner = {name: reference.expanded(TABLE, mapping[name]) for name in mapping}
                other = replaced(expanded(given, term), inner)
            except TooLarge:
                continue
            self.assertEqual(one, other)
            self.assertIsNone(misfit(given, one))
            seen += 1
        self.assertGreater(seen, 80)


class Sizes(Checks):
    """Full sizes of 150 and 151, and far more."""

    BEFORE = ENTRIES + [
        ("class", "r", ("ts",), None), ("alias", "same", ("t",), T), ("alias", "five", ("t",), use("r", row(*[T] * 5))),
        ("alias", "drop", ("t",), I), ("alias", "none", ("ts",), I), ("alias", "no", ("p", "t"), T),
        ("alias", "or", ("t",), union(T, I)), ("alias", "big", ("t",), use("drop", use("tab", T, row(T, T))))]

    def setUp(self):
        self.book = Book(self.BEFORE)

    def check(self, term, nodes, right):
        self.assertEqual(full_size(self.book, term), nodes)
        if right:
            found = expanded(self.book, term)
            table = {entry[1]: entry for entry in self.BEFORE}
            self.assertEqual(found, reference.expanded(table, term))
            self.assertIs(same(self.book, term, found), True)
        else:
            self.too_large(expanded, self.book, term)
            self.too_large(same, self.book, term, I)
            self.too_large(same, self.book, I, term)
            self.too_large(same, self.book, term, term)

    def test_limit(self):
        self.check(use("five", deep(28)), 146, True)
        self.check(use("five", deep(29)), 151, False)
        self.check(arrow(inputs(I, I), use("five", deep(28))), 149, True)
        self.check(arrow(inputs(I, I, I), use("five", deep(28))), 150, True)
        self.check(arrow(inputs(I, I, I), use("five", use("same", deep(28)))), 150, True)
        self.check(arrow(inputs(I, I, I, I), use("five", deep(28))), 151, False)
        self.check(use("box", use("five", use("five", deep(3)))), 107, True)
        self.check(use("box", use("five", use("five", deep(4)))), 132, True)
        self.check(use("box", use("five", use("five", deep(5)))), 157, False)
        self.check(deep(149), 150, True)
        self.check(use("same", deep(148)), 149, True)

    def test_unjoined(self):
        # The results are small, but they would be too large if nothing were joined.
        self.check(use("five", use("or", union(*[use("box", deep(at)) for at in range(5)]))), 116, True)
        self.check(use("five", use("or", union(*[use("box", deep(at)) for at in range(6)]))), 151, False)
        chain = union(I, L)
        for _ in range(73):
            chain = use("or", chain)
        self.check(chain, 149, True)
        self.check(use("box", chain), 150, True)
        self.check(use("or", chain), 151, False)
        self.check(union(I, use("same", chain)), 151, False)
        self.check(union(use("same", I), *[use("or", use("same", chain))]), 153, False)

    def test_terms_that_are_left_out(self):
        small, large = use("five", deep(28)), use("five", deep(29))
        for term, right in [(small, True), (large, False), (arrow(inputs(I, I, I), small), True),
                            (arrow(inputs(I, I, I, I), small), False)]:
            self.check(use("drop", term), 1, right)
            self.check(use("none", row(term)), 1, right)
            self.check(use("none", row(I, many(term))), 1, right)
            self.check(use("no", inputs(I, term), L), 1, right)
            self.check(use("no", inputs(many(term), tail="p"), L), 1, right)
            self.check(use("box", use("drop", use("drop", term))), 2, right)
            self.check(use("same", use("drop", use("same", term))), 1, right)
            self.check(union(L, use("drop", term)), 3, right)
        # Rows, inputs and items with three dots are no terms.
        self.check(use("none", row(*[small] * 4)), 1, True)
        self.check(use("none", row(many(arrow(inputs(I, I, I), small)))), 1, True)
        self.check(use("no", inputs(*[small] * 4), L), 1, True)
        self.check(use("no", inputs(many(arrow(inputs(I, I, I), small)), tail="..."), L), 1, True)
        self.check(use("none", row(use("r", row(*[small] * 4)))), 1, False)
        self.check(use("none", row(union(small, use("box", I)))), 1, True)
        self.check(use("none", row(union(small, use("five", use("box", I))))), 1, False)

    def test_what_aliases_leave_out_themselves(self):
        # In the body of big stands a term with three times the value.
        self.check(use("big", deep(48)), 1, True)
        self.check(use("big", deep(60)), 1, True)
        self.check(use("big", deep(148)), 1, True)
        self.check(use("big", use("five", deep(28))), 1, True)
        self.check(use("big", use("five", deep(29))), 1, False)

    def test_very_large_sizes(self):
        chain, nodes = I, 1
        for _ in range(149):
            chain, nodes = use("five", chain), 5 * nodes + 1
        self.check(chain, nodes, False)
        self.assertGreater(nodes, 10 ** 100)
        self.check(use("drop", chain[1][0]), 1, False)
        self.check(use("or", chain[1][0]), (nodes - 1) // 5 + 2, False)

    def test_aliases_of_aliases(self):
        entries = ENTRIES + [("alias", "a", ("t",), use("tab", T, row(T)))]
        for one, other in ["ab", "bc", "cd", "de", "ef"]:
            entries.append(("alias", other, ("t",), use(one, use("a", T))))
        given = Book(entries)
        self.assertEqual([full_size(given, use(name, I)) for name in "abcdef"], [3, 7, 15, 31, 63, 127])
        self.assertEqual(full_size(given, use("f", use("f", T))), 63 + 64 * 127)
        self.assertEqual(size(expanded(given, use("f", L))), 127)
        self.too_large(expanded, given, use("f", use("box", L)))
        with self.assertRaises(NoBook):
            Book(entries + [("alias", "g", ("t",), use("f", use("box", T)))])

    def test_deep_terms(self):
        chain = I
        for _ in range(149):
            chain = use("same", chain)
        self.check(chain, 1, True)
        for inside in [use("same", I), use("or", I), use("drop", I)]:
            term = inside
            for _ in range(148):
                term = use("box", term)
            self.assertEqual(size(term), 150)
            self.check(term, 148 + full_size(self.book, inside), full_size(self.book, inside) < 3)
        term = I
        for _ in range(74):
            term = use("r", row(many(term)))
        self.check(use("drop", term), 1, True)


class Same(Checks):

    def test_same(self):
        given = Book(MORE)
        for one, other, right in [
                (I, I, True), (I, L, False), (use("same", I), I, True), (I, use("drop", T, I), True), (use("same", I), L, False),
                (use("or", L), union(I, L), True), (use("or", L), union(L, I), True), (use("or", I), use("same", I), True),
                (use("or", L), union(I, L, T), False), (use("box", use("or", T)), use("box", union(I, T)), True),
                (use("box", T), use("box", use("same", N)), False), (use("left", row(), inputs(), T), use("same", I), True),
                (use("rows", row(T), L), use("tab", union(I, L), row(T, many(L), T)), True),
                (use("rows", row(T), L), use("tab", union(I, L), row(T, L, T)), False),
                (use("call", inputs(tail="p"), I, row()), arrow(inputs(I, tail="p"), I), True),
                (use("call", inputs(tail="..."), I, row()), arrow(inputs(I, tail="p"), I), False),
                (union(use("same", I), L), union(L, use("drop", T, I)), True)]:
            self.assertIs(same(given, one, other), right, (one, other))
            self.assertIs(same(given, other, one), right)

    def test_against_the_reference(self):
        given = Book(MORE)
        maker = Maker(60, ["int", "bool"], ["ts"], ["p"], {name: USES[name] for name in ["same", "or", "box", "drop"]})
        terms = [maker.term(2) for _ in range(150)]
        terms = [term for term in terms if reference.is_term(term) and reference.misfit(TABLE, term) is None][:60]
        many_same = 0
        for one in terms:
            for other in terms:
                expected = reference.canonical(reference.expanded(TABLE, one)) == reference.canonical(
                    reference.expanded(TABLE, other))
                self.assertIs(same(given, one, other), expected)
                self.assertIs(equal(expanded(given, one), expanded(given, other)), expected)
                many_same += expected
        self.assertGreater(many_same, 4 * len(terms))


class NoTerms(Checks):

    def test_form(self):
        values = [value for value in JUNK if not is_term(value)]
        values += [row(), inputs(), star("ts"), many(I), deep(150), union(I, I), use("none", None),
                   wrapped(320), wrapped(320, I, tuple), use("same", wrapped(310, I, tuple))]
        for value in values:
            self.no_term(-1, "form", expanded, book(), value)
            self.no_term(-1, "form", full_size, book(), value)
            self.no_term(-1, "form", same, book(), value, I)
            self.no_term(-1, "form", same, book(), I, value)
            self.no_term(-1, "form", same, book(), value, use("none"))
            self.no_term(0, "unknown", same, book(), use("none"), value)

    def test_misfits(self):
        for term in [use("none"), use("box"), use("box", row()), use("tab", T, row(star("t"))), use("num", T), use("same"),
                     use("same", use("num", union(I, S))), arrow(inputs(tail="ts"), T), union(L, use("same", row())), use("p"),
                     use("drop", use("none"), I), use("drop", T, S), use("call", I, I)]:
            found = misfit(wide(), term)
            self.no_term(*found, expanded, wide(), term)
            self.no_term(*found, full_size, wide(), term)
            self.no_term(*found, same, wide(), term, I)
            self.no_term(*found, same, wide(), I, term)
            self.no_term(*found, same, wide(), term, use("box"))
            self.no_term(0, "count", same, wide(), use("box"), term)

    def test_misfits_come_before_sizes(self):
        given = Book(Sizes.BEFORE)
        large = use("five", deep(29))
        self.no_term(0, "count", same, given, large, use("box"))
        self.no_term(0, "count", same, given, use("box"), large)
        self.no_term(147, "unknown", expanded, given, deep(147, use("zz")))
        self.no_term(31, "unknown", expanded, given, use("box", use("five", deep(29, use("zz")))))
        self.no_term(-1, "form", same, given, large, None)


class Calls(unittest.TestCase):

    def test_by_name(self):
        self.assertEqual(expanded(term=use("same", I), book=wide()), I)
        self.assertEqual(full_size(term=use("same", I), book=wide()), 1)
        self.assertIs(same(other=use("same", I), one=I, book=wide()), True)

    def test_nothing_is_changed(self):
        given = Book(copy.deepcopy(MORE))
        term = use("calls", inputs(I, tail="p"), row(star("ts"), use("or", T)))
        before = copy.deepcopy(term)
        for _ in range(2):
            self.assertEqual(expanded(given, term), reference.expanded(TABLE, before))
            self.assertIs(same(given, term, expanded(given, term)), True)
            full_size(given, term)
        self.assertEqual(term, before)
        self.assertEqual(given, Book(MORE))

    def test_books_apart(self):
        one = Book(ENTRIES[:2] + [("alias", "a", (), I)])
        other = Book(ENTRIES[:2] + [("alias", "a", (), L)])
        self.assertEqual(expanded(one, use("a")), I)
        self.assertEqual(expanded(other, use("a")), L)
        more = one.with_entry(("alias", "b", (), use("a")))
        self.assertEqual(expanded(more, use("b")), I)
        self.assertEqual(expanded(one, use("a")), I)
