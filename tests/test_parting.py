"""Promise 13: aliases that are alike, and least rows that part others."""

import time
import unittest

from aliasparams.alike import have_same_shape, parting
from aliasparams.books import Book
from aliasparams.expansion import full_size
from aliasparams.terms import size
from aliasparams.texts import read
from tests import reference
from tests.samples import (
    ENTRIES, I, JUNK, Maker, T, WIDE, alias, arrow, inputs, made_class, parameter, row, star, table_of, told_by, union, use, uses_of,
    wrapped)

A, U = use("a"), use("u")
PLAIN = [parameter("t"), parameter("u"), parameter("v"), parameter("ts", "variadic"), parameter("p", "signature")]
TWO = [made_class("a"), made_class("b", base=A), *PLAIN, parameter("n", "plain", ("a",)), parameter("m", "plain", ("b",)),
       parameter("k", "plain", ("a", "b")), made_class("x", "t"), made_class("y", "t", "u"), made_class("r", "ts"), made_class("q", "p")]


def size_of_row(found):
    return None if found is None else sum(size(value) for value in found)


class Checks(unittest.TestCase):

    def parted(self, one, other, expected, entries=TWO, aliases=(), listed=4):
        """The aliases are parted by a row of this size, or by none (None)."""
        given = Book(list(entries) + list(aliases))
        bodies = [body if isinstance(body, tuple) else read(given, body) for body in (one[-1], other[-1])]
        entries = [*entries, *aliases, alias("one", one[:-1], bodies[0]), alias("two", other[:-1], bodies[1])]
        given, table = Book(entries), table_of(entries)
        found, back = parting(given, "one", "two"), parting(given, "two", "one")
        self.assertEqual(size_of_row(found), expected, found)
        self.assertEqual(size_of_row(back), expected, back)
        for each in (found, back):
            if each is not None:
                self.assertIs(type(each), tuple)
                self.assertIs(reference.parts_them(table, "one", "two", each), True)
        limit = listed if expected is None else min(listed, expected - 1)
        self.assertIsNone(reference.least_parting_size(table, "one", "two", limit))
        self.assertEqual(parting(given, "one", "two"), found)
        return found


class Bodies(Checks):

    def test_alike(self):
        self.parted(("a",), ("a",), None)
        self.parted(("t", "t"), ("u", "u"), None)
        self.parted(("t", "a"), ("u", "a"), None)
        self.parted(("t", "t | a"), ("u", "a | u"), None)
        self.parted(("t", "u", "y[t | a, u | t]"), ("u", "t", "y[a | u, u | t]"), None)
        self.parted(("ts", "p", "(*ts, **p) -> r[*ts, a | b]"), ("ts", "p", "(*ts, **p) -> r[*ts, b | a]"), None)
        self.parted(("t", "ts", "p", "y[x[t] | t, (**p) -> r[*ts, t...]]"), ("v", "ts", "p", "y[v | x[v], (**p) -> r[*ts, v...]]"), None)

    def test_another_order_of_members(self):
        one = "x[a | b | t] | y[t, u | a]"
        self.parted(("t", "u", one), ("t", "u", "y[t, a | u] | x[t | b | a]"), None, listed=3)
        self.parted(("t", "u", one), ("t", "u", "y[t, a | u] | x[t | b]"), 2)
        self.parted(("t", "u", one), ("u", "t", "y[t, a | u] | x[t | b | a]"), 2, listed=3)

    def test_through_a_second_alias(self):
        second = [alias("s", ("t",), union(T, A)), alias("c", ("t", "u"), use("s", use("x", T)))]
        self.parted(("t", "s[t]"), ("t", "t | a"), None, aliases=second)
        self.parted(("t", "s[s[t]]"), ("t", "s[t]"), None, aliases=second)
        self.parted(("t", "u", "c[t, u]"), ("t", "u", "c[t, t]"), None, aliases=second, listed=3)
        self.parted(("t", "u", "c[t, u]"), ("t", "u", "c[u, t]"), 2, aliases=second)
        self.parted(("t", "s[t]"), ("t", "s[x[t]]"), 1, aliases=second)

    def test_told_apart(self):
        self.parted(("t", "t"), ("t", "a"), 1)
        self.parted(("a",), ("b",), 0)
        self.parted(("a | b",), ("b | a",), None)
        self.parted(("t", "u", "t"), ("t", "u", "u"), 2)
        self.parted(("ts", "r[*ts]"), ("ts", "r[]"), 1)
        self.parted(("ts", "r[*ts, a]"), ("ts", "r[a, *ts]"), 1)
        self.parted(("ts", "r[*ts, *ts]"), ("ts", "r[*ts]"), 1)
        self.parted(("ts", "r[*ts]"), ("ts", "() -> r[*ts]"), 0)
        self.parted(("p", "q[[**p]]"), ("p", "q[[...]]"), 0)
        self.parted(("p", "q[[**p]]"), ("p", "q[[]]"), 1)
        self.parted(("p", "q[[a, **p]]"), ("p", "q[[b, **p]]"), 0)
        self.parted(("p", "() -> q[[**p]]"), ("p", "(**p) -> q[[]]"), 1)
        self.parted(("t", "r[t]"), ("t", "r[t...]"), 1)
        self.parted(("ts", "t", "r[*ts, t]"), ("ts", "t", "r[t, *ts]"), 2)

    def test_unions_only(self):
        self.parted(("t", "t | a"), ("t", "a"), 1)
        self.parted(("t", "t | a | b"), ("t", "a | b"), 1)
        self.parted(("t", "t | a | b | x[a] | x[b]"), ("t", "a | b | x[a] | x[b]"), 1)
        self.parted(("t", "x[t] | x[a]"), ("t", "x[a]"), 1)
        self.parted(("t", "x[t | a]"), ("t", "x[a]"), 1)
        self.parted(("t", "u", "t | u"), ("t", "u", "t"), 2)
        self.parted(("t", "u", "t | u | a"), ("t", "u", "t | a"), 2)
        self.parted(("t", "u", "y[t, u] | y[u, t]"), ("t", "u", "y[t, u] | y[u, t] | y[t, t]"), 2)
        self.parted(("t", "u", "v", "t | u | v"), ("t", "u", "v", "t | v"), 3, listed=3)

    def test_values_that_are_members_already(self):
        entries = [made_class("a"), *PLAIN]
        a, first, three = "a", "(() -> a)", ["(() -> () -> a)", "((a) -> a)", "((...) -> a)"]
        self.parted(("t", f"t | {a}"), ("t", f"{a}"), 2, entries)
        self.parted(("t", f"t | {a} | {first}"), ("t", f"{a} | {first}"), 3, entries)
        inside = " | ".join([a, first, *three])
        self.parted(("t", f"t | {inside}"), ("t", inside), 4, entries, listed=3)
        self.parted(("t", "u", f"t | u | {inside}"), ("t", "u", f"{inside} | u"), 5, entries, listed=4)
        # A union of members is no other value than they are.
        self.parted(("t", "u", f"t | u | {a}"), ("t", "u", f"u | {a}"), 3, entries)

    def test_values_that_must_be_others_than_each_other(self):
        entries = [made_class("a"), *PLAIN, made_class("y", "t", "u"), alias("s", ("t", "u", "v"), union(use("y", T, U), use("y", U, use("v")), use("v")))]
        self.parted(("t", "u", "t | u"), ("t", "u", "t"), 3, entries)
        self.parted(("t", "u", "t | u"), ("t", "u", "u"), 3, entries)
        self.parted(("t", "u", "y[t, u] | y[u, t]"), ("t", "u", "y[t, u] | y[u, t] | y[t, t]"), 3, entries)
        self.parted(("t", "u", "v", "y[t, v] | y[u, v] | y[v, v]"), ("t", "u", "v", "y[t, v] | y[u, v]"), 4, entries, listed=3)
        self.parted(("t", "u", "v", "y[t, v | u] | y[t, u] | y[u | t, v]"), ("t", "u", "v", "y[t, v | u] | y[t, u] | y[u, v]"), 4, entries, listed=3)
        self.parted(("t", "u", "y[t, u] | t | a"), ("t", "u", "y[t, u] | u | a"), 3, entries)
        self.parted(("t", "u", "t | u | a | (() -> a)"), ("t", "u", "t | a | (() -> a)"), 4, entries, listed=3)
        self.parted(("ts", "t", "(*ts) -> t"), ("ts", "t", "(*ts) -> (t | a)"), 2, entries)
        self.parted(("ts", "t", "((*ts) -> t) | ((a) -> t) | (() -> t)"), ("ts", "t", "((a) -> t) | (() -> t)"), 3, entries)

    def test_bounds_before_bodies(self):
        entries = [made_class("a"), *PLAIN, parameter("n", "plain", ("a",))]
        self.parted(("t", "u", "u | a | (() -> a)"), ("n", "u", "a | (() -> a)"), 3, entries)
        self.parted(("n", "u", "u | a"), ("t", "u", "a"), 3, entries)

    def test_several_bounded_values(self):
        entries = [made_class("a"), made_class("b"), parameter("k", "plain", ("a", "b")), parameter("l", "plain", ("a", "b")), *PLAIN, made_class("w", "k", "t")]
        self.parted(("k", "t", "w[k, t] | w[a, t]"), ("k", "t", "w[a, t]"), 2, entries)
        self.parted(("k", "t", "w[k, t] | w[a, t] | w[b, t]"), ("k", "t", "w[a, t] | w[b, t]"), 4, entries)
        self.parted(("k", "t", "w[k, t] | w[a, t] | w[b, a] | w[b, b]"), ("k", "t", "w[a, t] | w[b, a] | w[b, b]"), 3, entries)
        self.parted(("t", "k", "w[k, t] | w[a, t] | w[b, t]"), ("t", "k", "w[a, t] | w[b, t]"), 4, entries)
        self.parted(("t", "k", "u", "w[k, t | u]"), ("t", "k", "u", "w[k, t]"), 3, entries, listed=2)
        self.parted(("k", "l", "k | l"), ("k", "l", "k"), 2, entries)
        self.parted(("k", "l", "w[k, l] | w[a | b, l]"), ("k", "l", "w[k, l] | w[k | l, l] | w[a | b, l]"), None, entries)

    def test_both_must_be_others(self):
        entries = [made_class("a"), *PLAIN, made_class("y", "t", "u"), alias("s", ("t",), union(T, A))]
        self.parted(("t", "u", "y[s[t], s[u]] | y[s[t], a] | y[a, s[u]]"), ("t", "u", "y[s[t], a] | y[a, s[u]]"), 4, entries, listed=3)
        entries.append(alias("e", ("ts", "p", "t"), use("y", use("s", T), arrow(inputs(star("ts")), arrow(inputs(tail="p"), A)))))
        self.parted(("ts", "p", "t", "e[*ts, [**p], t] | e[*ts, [**p], a] | e[[**p], t]"),
                    ("ts", "p", "t", "e[*ts, [**p], a] | e[[**p], t]"), 3, entries, listed=2)

    def test_unions_as_values(self):
        # Only a union of two members makes both bodies differ, apart from larger terms.
        entries = [made_class("a"), made_class("b"), parameter("k", "plain", ("a", "b")), made_class("w", "k")]
        self.parted(("k", "w[k] | w[a] | w[b]"), ("k", "w[a] | w[b]"), 3, entries)
        self.parted(("k", "w[k] | w[a] | w[b] | w[a | b]"), ("k", "w[a] | w[b] | w[b | a]"), None, entries)
        self.parted(("k", "w[k | a]"), ("k", "w[k] | w[k | a]"), 1, entries)


class Bounds(Checks):

    def test_parameters_that_only_bounds_tell_apart(self):
        self.parted(("t", "t"), ("n", "n"), 1, TWO + [made_class("c")])
        self.parted(("t", "t"), ("n", "n"), 1)
        self.parted(("t", "t"), ("n", "n"), 2, [made_class("a"), *PLAIN, parameter("n", "plain", ("a",))])
        self.parted(("t", "a"), ("n", "a"), 2, [made_class("a"), *PLAIN, parameter("n", "plain", ("a",))])
        self.parted(("n", "a"), ("m", "a"), 1)
        self.parted(("n", "n"), ("m", "m"), 1)
        self.parted(("t", "u", "a"), ("t", "n", "a"), 2)
        self.parted(("t", "ts", "n", "a"), ("t", "ts", "m", "a"), 2)

    def test_bounds_with_the_same_closed_values(self):
        self.parted(("n", "n"), ("k", "k"), None)
        self.parted(("n", "n | a"), ("k", "a | k"), None)
        self.parted(("n", "x[n]"), ("k", "x[k | a]"), 1)
        self.parted(("m", "m | b"), ("m", "b"), None)
        self.parted(("n", "n | a | b"), ("n", "b | a"), None)
        self.parted(("n", "n | b"), ("k", "b"), 1)
        self.parted(("n", "m", "n | m"), ("k", "m", "k"), 2)
        self.parted(("m", "u", "m | u"), ("m", "u", "b | u"), None, listed=3)

    def test_bodies_before_bounds(self):
        # A signature of two nodes would tell the bounds apart, the bodies differ before.
        entries = [made_class("a"), *PLAIN, parameter("n", "plain", ("a",)), made_class("x", "t")]
        self.parted(("t", "t"), ("n", "x[n]"), 1, entries)
        self.parted(("t", "u", "t"), ("n", "u", "u"), 3, entries, listed=2)
        self.parted(("t", "ts", "t"), ("n", "ts", "x[n]"), 1, entries)

    def test_no_common_values(self):
        entries = [made_class("a"), made_class("b"), parameter("n", "plain", ("a",)), parameter("m", "plain", ("b",)), parameter("u")]
        self.parted(("n", "u", "a"), ("m", "u", "a"), 2, entries)
        self.parted(("n", "a"), ("m", "b"), 1, entries)


class Shapes(Checks):

    def test_shapes(self):
        entries = TWO + [alias("fa", (), A), alias("fb", ("t",), A), alias("fc", ("n",), A), alias("fd", ("ts",), A), alias("fe", ("t", "ts"), A),
                         alias("ff", ("ts", "t"), A)]
        given = Book(entries)
        kinds = {"fa": "", "fb": "t", "fc": "t", "fd": "s", "fe": "ts", "ff": "st"}
        for one in kinds:
            for other in kinds:
                right = kinds[one] == kinds[other]
                self.assertIs(have_same_shape(given, one, other), right)
                if not right:
                    self.assertEqual(told_by(parting, given, one, other), ("OtherShape", one, other))

    def test_books_without_closed_terms(self):
        entries = [*PLAIN, made_class("x", "t")]
        self.parted(("t", "t"), ("t", "x[t]"), None, entries)
        self.parted(("t", "ts", "t"), ("u", "ts", "(*ts) -> u"), None, entries)
        self.parted(("t", "p", "t"), ("u", "p", "(**p) -> u"), None, entries)

    def test_names_that_are_none(self):
        given = Book(WIDE)
        for value in JUNK + ["none", "t", "int", "box", "sames", wrapped(300), ["same"], {}, 10 ** 39]:
            self.assertEqual(told_by(parting, given, value, "same"), ("NoName", value))
            self.assertEqual(told_by(parting, given, "same", value), ("NoName", value))
            self.assertEqual(told_by(have_same_shape, given, value, None), ("NoName", value))
            self.assertEqual(told_by(have_same_shape, given, "drop", value), ("NoName", value))

    def test_full_sizes_of_thirty(self):
        entries = ENTRIES + [alias("five", ("t",), use("tab", T, row(*[T] * 4))), alias("s", ("t",), union(T, I))]
        thirty = arrow(inputs(I, I, I), use("five", use("box", use("box", use("box", use("box", T))))))
        for term, other, right in [(thirty, thirty, True), (arrow(inputs(I, I, I, I), thirty[2]), thirty, False),
                                   (thirty, arrow(inputs(I, I, I, I), thirty[2]), False), (T, arrow(inputs(I, I, I, I), thirty[2]), False)]:
            given = Book(entries + [alias("one", ("t",), term), alias("two", ("t",), other), alias("no", (), I)])
            self.assertEqual(full_size(given, thirty), 30)
            if right:
                self.assertIsNone(parting(given, "one", "two"))
            else:
                self.assertEqual(told_by(parting, given, "one", "two"), ("TooLarge", 30))
                self.assertEqual(told_by(parting, given, "one", "no"), ("OtherShape", "one", "no"))
                self.assertEqual(told_by(parting, given, "one", "none"), ("NoName", "none"))

    def test_unjoined_sizes_count(self):
        entries = ENTRIES + [alias("s", ("t",), union(T, I))]
        body = T
        for _ in range(14):
            body = use("s", body)
        given = Book(entries + [alias("one", ("t",), body), alias("two", ("t",), union(I, T)), alias("big", ("t",), use("s", body))])
        self.assertEqual(full_size(given, body), 29)
        self.assertIsNone(parting(given, "one", "two"))
        self.assertEqual(told_by(parting, given, "two", "big"), ("TooLarge", 30))


class Random(Checks):

    def test_against_listing_all(self):
        seen = {}
        for seed in range(700):
            entries, aliases = some_pair(seed)
            try:
                given = Book(entries + aliases)
            except ValueError:
                continue
            table = table_of(entries + aliases)
            found = parting(given, "one", "two")
            many = size_of_row(found)
            self.assertEqual(size_of_row(parting(given, "two", "one")), many)
            self.assertIsNone(reference.least_parting_size(table, "one", "two", 3 if many is None else min(many - 1, 3)))
            if found is not None:
                self.assertTrue(reference.parts_them(table, "one", "two", found))
            seen[many] = seen.get(many, 0) + 1
        self.assertGreater(min(seen.get(many, 0) for many in [None, 0, 1, 2]), 10)


def some_pair(seed):
    """Entries, and two aliases that differ a little, or not."""
    maker = Maker(seed, ["a", "b", "t", "u", "n"], ["ts"], ["p"], {name: kinds for name, kinds in uses_of(TWO).items() if name in "xyrq"})
    names = maker.random.choice([("t",), ("t", "u"), ("n", "t"), ("ts",), ("p", "t"), ("ts", "n"), ()])
    others = tuple(maker.random.choice(["n", "m", "k"]) if name == "n" and maker.random.random() < 0.5 else name for name in names)
    maker.plain = ["a", "b"] + [name for name in names if name in "tun"] * 3
    maker.variadic = [name for name in names if name == "ts"] or ["none"]
    maker.signature = [name for name in names if name == "p"] or ["none"]
    one = maker.union(maker.random.randint(0, 2))
    other = renamed(changed(maker, one), dict(zip(names, others)))
    return TWO, [alias("one", names, one), alias("two", others, other)]


def changed(maker, term):
    """A term with members of unions left out, put in or in another order."""
    if not isinstance(term, tuple):
        return term
    found = tuple(changed(maker, inner) for inner in term)
    if found and found[0] == "|":
        members = maker.random.sample(found[1], len(found[1]))
        if maker.random.random() < 0.4:
            members.pop()
        if maker.random.random() < 0.3:
            members.append(use(maker.random.choice(maker.plain)))
        return maker.distinct([member for member in members if member[0] != "|"])
    return found


def renamed(value, names):
    if isinstance(value, tuple):
        return tuple(renamed(inner, names) for inner in value)
    return names.get(value, value)


class Times(Checks):
    """Bodies of a full size of thirty, and books with many closed values of each size."""

    CORE = [made_class(name) for name in "abcd"]
    WIDE = CORE + [parameter(name) for name in "tuv"] + [parameter("ts", "variadic")] + [
        made_class("r" + name, "ts") for name in "abcdefg"] + [made_class("tri", "t", "u", "v")]
    BOUNDED = CORE + [parameter(name, "plain", tuple("abcd")) for name in "xyz"] + [
        parameter("t"), parameter("u"), parameter("v"), made_class("tri", "t", "u", "v"), made_class("pr", "t", "u"),
        alias("k", ("t", "u"), union(use("pr", T, U), use("pr", U, T), T, U))]

    def within(self, seconds, one, other, expected, entries):
        start = time.process_time()
        given = Book(entries + [alias("one", one[:-1], read(Book(entries), one[-1])), alias("two", other[:-1], read(Book(entries), other[-1]))])
        found = parting(given, "one", "two")
        self.assertLess(time.process_time() - start, seconds)
        self.assertEqual(size_of_row(found), expected)
        if found is not None:
            self.assertIs(reference.parts_them(table_of(given.entries()), "one", "two", found), True)

    def test_all_values_of_three_bounds(self):
        one, other = "tri[k[x, y], k[y, z], k[z, x]]", "tri[k[y, x], k[z, y], k[x, z]]"
        self.within(5, ("x", "y", "z", one), ("x", "y", "z", other), None, self.BOUNDED)
        self.within(5, ("x", "y", "z", one), ("x", "y", "z", "tri[k[y, x], k[z, y], k[x, z] | y]"), 3, self.BOUNDED)
        self.within(5, ("x", "y", "t", one.replace("z", "t")), ("x", "y", "t", other.replace("z", "t")), None, self.BOUNDED)

    def test_many_small_values(self):
        small = " | ".join([*"abcd", *["r" + name + "[]" for name in "abcdefg"]])
        for place in range(3):
            names = ["t", "u", "v"]
            one, other = list(names), list(names)
            one[place] += " | " + small
            other[place] = small
            self.within(5, (*names, f"tri[{', '.join(one)}]"), (*names, f"tri[{', '.join(other)}]"), 4, self.WIDE)
            others = " | ".join(name for name in names if name != names[place])
            self.within(5, (*names, f"t | u | v | {small}"), (*names, f"{others} | {small}"), 4, self.WIDE)

    def test_members_up_to_size_three(self):
        entries = [made_class("a"), *PLAIN, alias("s", (), read(Book([made_class("a")]), "a | (() -> a) | (() -> () -> a) | ((a) -> a) | ((...) -> a)"))]
        for names in [("t", "u", "v"), ("v", "t", "u"), ("u", "v", "t")]:
            self.within(5, (*names, "t | u | v | s"), (*names, "u | v | s"), 6, entries)

