"""Promises 2, 4 and 5: terms, nodes, origin and arguments."""

import copy
import unittest

from aliasparams.terms import arguments, is_term, made, origin, size
from tests import reference
from tests.samples import (
    FULL, I, JUNK, L, Maker, T, arrow, changed_everywhere, deep, deep_in_rows, inputs, many, row, star,
    union, use, wrapped)

PARTS = [
    row(), row(I), row(star("ts")), row(many(I)), row(many(union(I, L))), row(union(I, L), arrow(inputs(), I)),
    inputs(), inputs(I), inputs(star("ts")), inputs(many(I), L), inputs(tail="..."), inputs(tail="p"),
    inputs(I, star("ts"), tail="p"), inputs(union(I, L), tail="..."),
]

TERMS = [
    I, use("abcdef"), use("box", I), use("tab", I, row()), use("x", *PARTS), use("use"),
    arrow(inputs(), I), arrow(inputs(I), union(I, L)), arrow(inputs(tail="p"), arrow(inputs(tail="..."), I)),
    union(I, L), union(I, L, T), union(arrow(inputs(), I), arrow(inputs(), L)),
    union(use("box", union(I, L)), use("box", union(I, T))), use("box", union(I, L)), deep(149), deep_in_rows(149),
    FULL,
]


class IsTerm(unittest.TestCase):

    def test_each_form(self):
        for term in TERMS:
            self.assertIs(is_term(term), True, term)

    def test_each_value_item_and_tail(self):
        for part in PARTS:
            self.assertIs(is_term(use("x", part)), True, part)
            self.assertIs(is_term(part), False, part)
        for part in PARTS:
            self.assertIs(is_term(arrow(part, I)), part[0] == "()", part)
            self.assertIs(is_term(arrow(inputs(), part)), False, part)
            self.assertIs(is_term(union(I, part)), False, part)
            self.assertIs(is_term(use("x", row(part))), False, part)
            self.assertIs(is_term(use("x", inputs(part))), False, part)
            self.assertIs(is_term(use("x", row(many(part)))), False, part)

    def test_items_stand_only_in_rows_and_inputs(self):
        for item in [star("ts"), many(I)]:
            self.assertIs(is_term(item), False)
            self.assertIs(is_term(use("x", item)), False)
            self.assertIs(is_term(union(I, item)), False)
            self.assertIs(is_term(arrow(inputs(), item)), False)
            self.assertIs(is_term(use("x", row(many(item)))), False)
            self.assertIs(is_term(use("x", row(item))), True)
            self.assertIs(is_term(arrow(inputs(item), I)), True)

    def test_tails(self):
        for tail in [None, "...", "p", "abcdef"]:
            self.assertIs(is_term(use("x", inputs(tail=tail))), True, tail)
        for tail in ["", "..", "....", "P", "abcdefg", "*", "**", (), I, ("**", "p"), ["p"], 0, False, True, []]:
            self.assertIs(is_term(use("x", inputs(tail=tail))), False, tail)
            self.assertIs(is_term(arrow(inputs(I, tail=tail), I)), False, tail)
        # A tail is no item, however it is written.
        for item in ["...", "p", None, ("**", "p"), ("**", "...")]:
            self.assertIs(is_term(use("x", inputs(item))), False, item)
            self.assertIs(is_term(use("x", row(item))), False, item)

    def test_junk(self):
        for value in JUNK:
            self.assertIs(is_term(value), reference.is_term(value), value)
            for around in [use("x", value), use("x", row(value)), arrow(inputs(value), I), union(I, value),
                           arrow(value, I), arrow(inputs(), value), use("x", row(many(value)))]:
                self.assertIs(is_term(around), reference.is_term(around), around)

    def test_parts_replaced_left_out_or_doubled(self):
        right = 0
        for term in TERMS[:-3] + [FULL]:
            for value in changed_everywhere(term):
                expected = reference.is_term(value)
                self.assertIs(is_term(value), expected, value)
                right += expected
        self.assertGreater(right, 1000)

    def test_lists_are_no_tuples(self):
        for value in [["int", ()], ("int", []), ("x", [I]), ["|", (I, L)], ("|", [I, L]), ["->", inputs(), I],
                      ("->", ["()", (), None], I), ("->", ("()", [], None), I), ("x", (["[]", ()],)),
                      ("x", (("[]", []),)), ("x", (["()", (), None],)), ("x", (row(["*", "ts"]),)),
                      ("x", (row(["...", I]),)), ("x", (["int", ()],))]:
            self.assertIs(is_term(value), False, value)


class Unions(unittest.TestCase):

    def test_no_member_is_a_union(self):
        self.assertIs(is_term(union(I, union(L, T))), False)
        self.assertIs(is_term(union(union(L, T), I)), False)
        self.assertIs(is_term(union(I, L, union(T, L))), False)
        self.assertIs(is_term(union(I, arrow(inputs(), union(L, T)))), True)

    def test_two_or_more(self):
        self.assertIs(is_term(("|", ())), False)
        self.assertIs(is_term(("|", (I,))), False)
        self.assertIs(is_term(use("box", ("|", (I,)))), False)

    def test_no_equal_members(self):
        one = use("box", union(I, L, use("box", union(I, T))))
        other = use("box", union(use("box", union(T, I)), L, I))
        for wrong in [union(I, I), union(I, L, I), union(one, one), union(one, other), union(I, other, L, one)]:
            for around in [wrong, use("box", wrong), arrow(inputs(wrong), I), arrow(inputs(), wrong),
                           use("x", row(many(wrong))), union(use("box", wrong), I), use("x", I, row(), inputs(wrong))]:
                self.assertIs(is_term(around), False, around)

    def test_members_that_differ(self):
        for one, other in [
                (use("x", row(I, L)), use("x", row(L, I))), (use("x", row()), use("x", inputs())),
                (use("x"), use("x", row())), (use("x", inputs()), use("x", inputs(tail="..."))),
                (use("x", inputs(tail="p")), use("x", inputs(tail="q"))), (use("x", row(T)), use("x", row(star("t")))),
                (use("x", row(many(T))), use("x", row(T))), (use("x", union(I, L)), use("x", union(I, L, T)))]:
            self.assertIs(is_term(union(one, other)), True, (one, other))


class Limit(unittest.TestCase):

    def test_150_nodes(self):
        wide = [use("x", row(*[I] * 149)), use("x", *[I] * 149), use("x", inputs(*[star("ts")] * 148, tail="p")),
                use("x", row(*[many(I)] * 74), inputs(tail="...")), arrow(inputs(*[I] * 148), I),
                use("x", inputs(*[I] * 149)), deep(149), deep_in_rows(149), deep(147, union(I, L)),
                union(*[use(a + b) for a in "abcdefghij" for b in "abcdefghijklmno"][:149])]
        for term in wide:
            self.assertEqual(size(term), 150)
            self.assertIs(is_term(term), True)

    def test_151_nodes(self):
        large = [use("x", row(*[I] * 150)), use("x", *[I] * 150), use("x", inputs(*[star("ts")] * 149, tail="p")),
                 use("x", inputs(*[star("ts")] * 149, tail="...")), use("x", row(*[many(I)] * 75)),
                 arrow(inputs(*[I] * 149), I), use("x", inputs(*[I] * 150)), deep(150), deep_in_rows(150),
                 deep(148, union(I, L)),
                 union(*[use(a + b) for a in "abcdefghij" for b in "abcdefghijklmno"])]
        for term in large:
            self.assertEqual(size(term), 151)
            self.assertIs(is_term(term), False)
            self.assertIs(is_term(use("box", term)), False)

    def test_values_without_nodes(self):
        for values in [[row()] * 900, [inputs()] * 600, [row(), inputs()] * 350]:
            term = use("x", *values)
            self.assertIs(is_term(term), True)
            self.assertEqual(size(term), 1)
            self.assertIs(is_term(use("x", *values, None)), False)
            self.assertIs(is_term(use("x", *values, row(I))), True)

    def test_shared_parts(self):
        # Few tuples, but so many nodes that nothing could visit them all.
        for step in [lambda inner: use("x", inner, inner), lambda inner: use("x", row(inner, inner)),
                     lambda inner: arrow(inputs(inner), inner), lambda inner: use("x", inputs(many(inner), inner))]:
            term = I
            for _ in range(100):
                term = step(term)
            self.assertIs(is_term(term), False)


class AnyValue(unittest.TestCase):

    def test_deep_values(self):
        for kind in (list, tuple):
            for times in (299, 319, 320, 900):
                self.assertIs(is_term(wrapped(times, I, kind)), False)
                self.assertIs(is_term(use("x", wrapped(times, I, kind))), False)
                self.assertIs(is_term(("|", (I, wrapped(times, I, kind)))), False)
                self.assertIs(is_term(arrow(wrapped(times, I, kind), I)), False)
                self.assertIs(is_term(use("x", inputs(tail=wrapped(times, "p", kind)))), False)
                self.assertIs(is_term((wrapped(times, "int", kind), ())), False)
                self.assertIs(is_term(use("x", row(("*", wrapped(times, "ts", kind))))), False)

    def test_deep_terms(self):
        for term in [deep(149), deep_in_rows(149), deep(400), deep_in_rows(400)]:
            self.assertIs(is_term(term), size(term) <= 150)
        wrong = deep(140, union(I, use("box", I), use("box", I)))
        self.assertIs(is_term(wrong), False)
        arrows = I
        for _ in range(49):
            arrows = arrow(inputs(many(arrows)), I)
        self.assertEqual(size(arrows), 148)
        self.assertIs(is_term(arrows), True)
        self.assertIs(is_term(arrow(inputs(many(arrows)), I)), False)

    def test_values_stay_as_they_are(self):
        for value in JUNK + [FULL, wrapped(50, [I]), [["int", []], {}]]:
            before = copy.deepcopy(value)
            is_term(value)
            self.assertEqual(value, before)

    def test_by_name(self):
        self.assertIs(is_term(value=I), True)
        self.assertIs(is_term(value=None), False)


class Size(unittest.TestCase):

    def test_each_node(self):
        for part, expected in [
                (I, 1), (use("box", I), 2), (arrow(inputs(), I), 2), (union(I, L), 3), (row(), 0), (inputs(), 0),
                (row(star("ts")), 1), (row(many(I)), 2), (inputs(tail="..."), 1), (inputs(tail="p"), 1),
                (inputs(I, star("ts"), many(L), tail="p"), 5), (use("x", row(I, L), inputs(tail="p"), T), 5),
                (FULL, len(reference.nodes(FULL)))]:
            self.assertEqual(size(part), expected, part)

    def test_against_the_reference(self):
        maker = Maker(5, ["int", "bool", "t"], ["ts"], ["p"],
                      {"box": ["plain"], "tab": ["plain", "variadic"], "task": ["signature", "plain"]})
        for _ in range(300):
            term = maker.term(4)
            self.assertEqual(size(term), len(reference.nodes(term)))
            self.assertEqual(size(maker.shuffled(term)), size(term))

    def test_by_name(self):
        self.assertEqual(size(term=union(I, L)), 3)


class OriginAndArguments(unittest.TestCase):

    def test_each_form(self):
        self.assertEqual((origin(I), arguments(I)), ("int", ()))
        self.assertEqual((origin(use("tab", I, row(L))), arguments(use("tab", I, row(L)))), ("tab", (I, row(L))))
        signature = arrow(inputs(I, tail="p"), L)
        self.assertEqual((origin(signature), arguments(signature)), ("->", (inputs(I, tail="p"), L)))
        self.assertEqual((origin(union(L, I)), arguments(union(L, I))), ("|", (L, I)))

    def test_made(self):
        self.assertEqual(made("int", ()), I)
        self.assertEqual(made("tab", (I, row(L))), use("tab", I, row(L)))
        self.assertEqual(made("->", (inputs(), L)), arrow(inputs(), L))
        self.assertEqual(made("|", (L, I)), union(L, I))

    def test_made_again(self):
        for term in TERMS:
            again = made(origin(term), arguments(term))
            self.assertIsInstance(again, tuple)
            self.assertIsInstance(arguments(term), tuple)
            self.assertEqual(again, term)
            self.assertIs(is_term(again), True)

    def test_by_name(self):
        term = arrow(inputs(), L)
        self.assertEqual(made(origin=origin(term=term), arguments=arguments(term=term)), term)
        self.assertEqual(made(arguments=(), origin="int"), I)
