"""Promises 3, 4 and 6: equal terms, keys and joined terms."""

import itertools
import unittest

from aliasparams.terms import equal, is_term, joined, key, size
from tests import reference
from tests.samples import (
    FULL, I, L, Maker, T, arrow, deep, deep_in_rows, inputs, many, row, star, union, use)

USES = {"box": ["plain"], "tab": ["plain", "variadic"], "task": ["signature", "plain"]}

# Terms of which no two are equal, many of them nearly so.
DIFFERENT = [
    I, L, T, use("in"), use("ints"), use("int", I), use("int", row()), use("int", inputs()), use("int", row(I)),
    use("int", I, I), use("int", row(I, I)), use("int", row(I), I), use("int", I, row(I)), use("int", row(), row()),
    use("int", row(I, L)), use("int", row(L, I)), use("int", inputs(I)), use("int", inputs(I, L)),
    use("int", inputs(L, I)), use("int", inputs(tail="p")), use("int", inputs(tail="q")), use("int", inputs(tail="...")),
    use("int", row(use("p"))), use("int", row(star("p"))), use("int", row(star("q"))), use("int", row(many(use("p")))),
    use("int", inputs(use("p"))), use("int", inputs(star("p"))), use("int", inputs(many(use("p")))),
    use("int", inputs(I, tail="p")), use("int", inputs(I, use("p"))), use("int", inputs(I, star("p"))),
    use("int", inputs(I, tail="...")), use("int", inputs(many(I))), use("int", inputs(many(I), tail="...")),
    use("int", row(many(I))), use("int", row(many(union(I, L)))), use("int", row(union(I, L))),
    use("int", row(many(I), L)), use("int", row(I, many(L))), arrow(inputs(), I), arrow(inputs(), L),
    arrow(inputs(I), L), arrow(inputs(L), I), arrow(inputs(tail="p"), I), arrow(inputs(tail="..."), I),
    arrow(inputs(), arrow(inputs(), I)), arrow(inputs(arrow(inputs(), I)), I), arrow(inputs(I, L), I),
    arrow(inputs(union(I, L)), I), arrow(inputs(), union(I, L)), union(I, L), union(I, T), union(I, L, T),
    union(arrow(inputs(), I), L), union(I, arrow(inputs(), L)), union(I, use("int", I)), use("int", union(I, L)),
    use("int", union(I, L, T)), use("int", union(I, use("int", L))), use("box", union(use("box", I), L)),
    union(use("box", I), use("box", L)), union(use("box", union(I, L)), T), union(use("box", union(I, T)), L),
    use("x", I, row(L, T)), use("x", I, row(L), T), use("x", row(I), row(L)), use("x", row(I, L), row()),
    use("x", row(), row(I, L)), use("x", inputs(I), inputs(L)), use("x", inputs(I, L), inputs()),
    use("x", use("y", I), L), use("x", use("y", I, L)), use("x", use("y"), I, L),
]


class Equal(unittest.TestCase):

    def test_the_same(self):
        for term in DIFFERENT + [FULL, deep(149), deep_in_rows(149)]:
            self.assertIs(equal(term, term), True)

    def test_different(self):
        for term in DIFFERENT:
            self.assertIs(is_term(term), True, term)
        for one, other in itertools.permutations(DIFFERENT, 2):
            self.assertIs(equal(one, other), False, (one, other))
            self.assertNotEqual(key(one), key(other))

    def test_other_order_of_members(self):
        members = [I, L, use("box", union(I, L)), arrow(inputs(union(L, T), tail="p"), union(I, T))]
        for given in itertools.permutations(members):
            self.assertIs(equal(union(*members), union(*given)), True)
            self.assertEqual(key(union(*members)), key(union(*given)))
        self.assertIs(equal(union(*members), union(*members[1:])), False)

    def test_other_order_at_any_depth(self):
        one, other = union(I, L, T), union(T, I, L)
        for around in [lambda term: use("box", term), lambda term: use("x", row(I, term)),
                       lambda term: use("x", row(many(term))), lambda term: use("x", inputs(term, tail="p")),
                       lambda term: arrow(inputs(many(term)), I), lambda term: arrow(inputs(), term),
                       lambda term: union(use("box", term), I), lambda term: deep(140, term),
                       lambda term: deep_in_rows(140, term), lambda term: use("box", use("x", row(), term))]:
            self.assertIs(equal(around(one), around(other)), True)
            self.assertEqual(key(around(one)), key(around(other)))
            self.assertIs(equal(around(one), around(union(I, L))), False)

    def test_order_of_items_and_values_matters(self):
        self.assertIs(equal(use("x", I, L), use("x", L, I)), False)
        self.assertIs(equal(use("x", row(I, L)), use("x", row(L, I))), False)
        self.assertIs(equal(arrow(inputs(I, L), T), arrow(inputs(L, I), T)), False)
        self.assertIs(equal(arrow(inputs(I), L), arrow(inputs(L), I)), False)

    def test_against_the_reference(self):
        maker = Maker(7, ["int", "bool", "t"], ["ts", "us"], ["p", "q"], USES)
        terms = [maker.term(2) for _ in range(150)]
        terms += [maker.shuffled(term) for term in terms]
        seen = [(key(term), reference.canonical(term)) for term in terms]
        same = 0
        for one, other in itertools.combinations(seen, 2):
            self.assertEqual(one[0] == other[0], one[1] == other[1])
            same += one[0] == other[0]
        self.assertGreater(same, 150)

    def test_shuffled(self):
        maker = Maker(8, ["int", "bool", "t"], ["ts", "us"], ["p", "q"], USES)
        for _ in range(200):
            term = maker.term(5)
            other = maker.shuffled(term)
            self.assertIs(equal(term, other), True)
            self.assertEqual(key(term), key(other))

    def test_keys_are_strings(self):
        for term in DIFFERENT + [FULL]:
            self.assertIsInstance(key(term), str)

    def test_by_name(self):
        self.assertIs(equal(one=I, other=L), False)
        self.assertEqual(key(term=I), key(I))


class Joined(unittest.TestCase):

    def test_example(self):
        self.assertEqual([joined(I, ("|", (L, I))), equal(("|", (I, L)), ("|", (L, I)))],
                         [("|", (("int", ()), ("bool", ()))), True])

    def test_a_term_alone(self):
        for term in DIFFERENT + [FULL, deep_in_rows(149)]:
            self.assertEqual(joined(term), term)

    def test_one_term_remains(self):
        for term in DIFFERENT:
            self.assertEqual(joined(term, term), term)
            self.assertEqual(joined(term, term, term), term)
        self.assertEqual(joined(I, I), I)

    def test_unions_among_the_terms(self):
        self.assertEqual(joined(I, L), union(I, L))
        self.assertEqual(joined(L, I), union(L, I))
        self.assertEqual(joined(union(I, L), T), union(I, L, T))
        self.assertEqual(joined(T, union(I, L)), union(T, I, L))
        self.assertEqual(joined(union(T, I), union(L, T)), union(T, I, L))
        self.assertEqual(joined(L, union(I, T), L, union(T, use("box", I))), union(L, I, T, use("box", I)))
        self.assertEqual(joined(union(I, L), union(L, I)), union(I, L))

    def test_equal_up_to_the_order_of_members(self):
        one, other = use("box", union(I, L)), use("box", union(L, I))
        self.assertEqual(joined(one, other), one)
        self.assertEqual(joined(other, one), other)
        self.assertEqual(joined(T, one, union(other, I)), union(T, one, I))
        self.assertEqual(joined(union(other, I), T, one), union(other, I, T))
        deeper = [arrow(inputs(many(term)), use("x", row(term))) for term in (one, other)]
        self.assertEqual(joined(*deeper), deeper[0])

    def test_only_the_outer_unions_are_opened(self):
        inner = use("box", union(I, L))
        self.assertEqual(joined(inner, I), union(inner, I))
        signature = arrow(inputs(), union(I, L))
        self.assertEqual(joined(signature, I, L), union(signature, I, L))

    def test_in_groups(self):
        maker = Maker(9, ["int", "bool", "t"], ["ts"], ["p"], USES)
        for _ in range(200):
            terms = [maker.term(2) for _ in range(5)]
            at_once = joined(*terms)
            self.assertEqual(joined(joined(*terms[:2]), *terms[2:]), at_once)
            self.assertEqual(joined(terms[0], joined(*terms[1:])), at_once)
            self.assertEqual(joined(joined(*terms[:3]), joined(*terms[3:])), at_once)
            self.assertEqual(joined(*terms, *terms), at_once)

    def test_against_the_reference(self):
        maker = Maker(10, ["int", "bool", "t"], ["ts"], ["p"], USES)
        for _ in range(300):
            terms = [maker.term(2) for _ in range(maker.random.randint(1, 6))]
            found = joined(*terms)
            self.assertEqual(found, reference.joined(terms))
            if size(found) <= 150:
                self.assertIs(is_term(found), True)
