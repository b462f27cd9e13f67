"""Promises 8, 9, 11 and 14 as far as books rest on them, and the class Book."""

import copy
import unittest

from aliasparams.books import Book
from aliasparams.climbing import bases_of
from aliasparams.errors import NoBook, NoName, TooLarge
from aliasparams.parts import laid_out
from aliasparams.replacing import replaced
from aliasparams.sizes import unjoined_size
from aliasparams.terms import is_term, size
from tests import reference
from tests.samples import (
    ENTRIES, I, JUNK, L, Maker, T, WIDE, arrow, book, changed_everywhere, deep, inputs, many, row, star, union, use, wide, wrapped)

S = use("str")
N = use("n")
USES = {entry[1]: [{item[1]: item[2] for item in WIDE}[name] for name in entry[2]]
        for entry in WIDE if entry[0] != "parameter"}


class Checks(unittest.TestCase):

    def check(self, entry, right, before=ENTRIES):
        """The entry is right, or is not, behind the ones before and before others."""
        for entries in [before + [entry], before + [entry, ("parameter", "zz", "plain", None)]]:
            if right:
                self.assertEqual(Book(entries).entries(), entries)
                continue
            with self.assertRaises(NoBook) as caught:
                Book(entries)
            self.assertEqual(caught.exception.position, len(before), entry)


class Entries(Checks):

    def test_forms(self):
        for value in JUNK + [wrapped(320), wrapped(320, I, tuple), ("parameter", "x", "plain"), ["parameter"] * 4,
                             ("parameter", "x", "plain", None, None), ["parameter", "x", "plain", None],
                             ("Parameter", "x", "plain", None), ("para", "x", "plain", None), (None, "x", (), None),
                             (["class"], "x", (), None), (wrapped(300), "x", (), None), ("parameter", (), (), None)]:
            self.check(value, False)
        # The first item is no other, also where all else is right.
        for first in ["", "Alias", "aliases", "base", "plain", None, 0, (), ["alias"], ("alias",), wrapped(300)]:
            for rest in [("x", (), I), ("x", ("t",), use("box", T)), ("x", (), None), ("x", "plain", None)]:
                self.check((first, *rest), False)

    def test_names(self):
        for name in ["", "X", "abcdefg", "a1", None, 1, [], (), ["x"], wrapped(300), "int", "t", "box"]:
            self.check(("parameter", name, "plain", None), False)
            self.check(("class", name, (), None), False)
            self.check(("alias", name, (), I), False)
        for name in ["x", "abcdef", "use", "plain", "class"]:
            self.check(("parameter", name, "plain", None), True)
            self.check(("class", name, (), None), True)
            self.check(("alias", name, (), I), True)

    def test_kinds(self):
        for kind in ["plain", "variadic", "signature"]:
            self.check(("parameter", "x", kind, None), True)
        for kind in ["", "Plain", "plains", None, 0, True, (), ("plain",), ["plain"], wrapped(300)]:
            self.check(("parameter", "x", kind, None), False)

    def test_bounds(self):
        core = [("class", name, (), None) for name in ["a", "b", "c", "d"]]
        core += [("parameter", "t", "plain", None), ("class", "box", ("t",), None),
                 ("class", "e", (), use("box", use("a")))]
        for bound in [("a",), ("d",), ("a", "b"), ("a", "d"), ("b", "c", "d"), ("a", "b", "c", "d"), None]:
            self.check(("parameter", "x", "plain", bound), True, core)
            self.check(("parameter", "x", "variadic", bound), bound is None, core)
            self.check(("parameter", "x", "signature", bound), bound is None, core)
        for bound in [(), ("b", "a"), ("a", "a"), ("a", "c", "b"), ["a"], "a", "ab", ("e",), ("a", "e"), ("t",), ("box",),
                      ("none",), ("x",), (None,), (("a",),), (use("a"),), 0, False, True, use("a"), wrapped(300),
                      ("a", "b", "c", "d", "d"), ("a", wrapped(300)), ("a", 1), (1, "a"), {}]:
            self.check(("parameter", "x", "plain", bound), False, core)

    def test_parameters(self):
        more = ENTRIES + [("parameter", "us", "variadic", None), ("parameter", "u", "plain", ("int",)),
                          ("parameter", "q", "signature", None)]
        for names in [(), ("t",), ("ts",), ("p",), ("t", "ts"), ("ts", "t"), ("t", "ts", "p"), ("p", "q", "ts"),
                      ("t", "u", "p"), ("u", "t")]:
            self.check(("class", "x", names, None), True, more)
            self.check(("alias", "x", names, I), True, more)
        for names in [("t", "t"), ("ts", "us"), ("ts", "t", "us"), ("t", "u", "p", "q"), ("t", "t", "t"), ["t"], "t", None,
                      ("int",), ("t", "box"), ("none",), ("x",), (None,), (1,), (T,), ("t", ()), (["t"],), (("t",),),
                      (wrapped(300),), wrapped(300), 0, False, {}, star("ts")]:
            self.check(("class", "x", names, None), False, more)
            self.check(("alias", "x", names, I), False, more)

    def test_bases(self):
        more = ENTRIES + [("alias", "same", ("t",), T), ("parameter", "n", "plain", ("int",)),
                          ("class", "num", ("n",), None), ("class", "lone", (), use("box", I))]
        for names, base in [
                ((), I), ((), use("box", I)), (("t",), use("box", T)), (("t",), use("box", I)), (("t",), I),
                (("t", "ts"), use("tab", T, row(star("ts"), I, many(T)))), (("p",), use("task", inputs(tail="p"), I)),
                (("t",), use("box", use("same", T))), ((), use("num", use("same", L))), (("n",), use("num", N)),
                ((), use("lone")), (("t",), use("box", union(T, I))), ((), use("box", arrow(inputs(), I)))]:
            self.check(("class", "x", names, base), True, more)
        for names, base in [
                ((), T), (("t",), T), ((), use("same", I)), ((), union(I, L)), ((), arrow(inputs(), I)), ((), use("x")),
                ((), use("none")), ((), use("box")), ((), use("box", row())), ((), use("box", T)), (("n",), use("box", T)),
                (("t",), use("tab", T, row(star("ts")))), (("t",), use("task", inputs(tail="p"), T)),
                (("t",), use("num", T)), ((), use("num", use("box", I))), ((), row()), ((), ()), ((), "int"), ((), ("int",)),
                ((), ["int", ()]), ((), False), ((), 0), ((), inputs()), ((), wrapped(300)), ((), wrapped(300, I, tuple)),
                (("t",), use("box", union(T, T))), ((), use("zz"))]:
            self.check(("class", "x", names, base), False, more)

    def test_bodies(self):
        more = ENTRIES + [("alias", "same", ("t",), T), ("parameter", "n", "plain", ("int",)),
                          ("class", "num", ("n",), None)]
        for names, body in [
                ((), I), (("t",), T), (("t",), I), ((), use("box", I)), ((), union(I, L)), (("p",), arrow(inputs(tail="p"), I)),
                (("t", "ts"), use("tab", T, row(star("ts")))), (("t",), use("same", use("same", T))), (("n",), use("num", N)),
                ((), use("num", use("same", I))), (("t", "p"), union(T, arrow(inputs(T, tail="p"), use("same", T))))]:
            self.check(("alias", "x", names, body), True, more)
        for names, body in [
                ((), None), ((), T), (("n",), T), (("t",), use("box", N)), ((), use("x")), ((), use("box")), ((), use("none")),
                (("t",), use("num", T)), ((), arrow(inputs(tail="p"), I)), (("ts",), use("ts")), (("p",), use("p")),
                ((), union(I, I)), ((), row()), ((), inputs()), ((), 0), ((), wrapped(300)), ((), ["int", ()]), ((), "int"),
                (("t",), use("tab", T, row(star("ts")))), ((), use("zz")), (("t",), use("same", use("x", T)))]:
            self.check(("alias", "x", names, body), False, more)

    def test_size_of_twenty(self):
        for inside, names in [(I, ()), (T, ("t",))]:
            for nodes, right in [(1, True), (18, True), (19, True), (20, False), (149, False), (150, False)]:
                self.check(("class", "x", names, deep(nodes, inside)), right)
                self.check(("alias", "x", names, deep(nodes, inside)), right)
        self.check(("class", "x", (), use("tab", I, row(*[many(I)] * 9))), True)
        self.check(("class", "x", (), use("tab", I, row(*[many(I)] * 8, I, I, I))), False)


class CoreClasses(Checks):

    def test_at_most_four(self):
        four = [("class", "a", (), None), ("class", "b", (), use("a")), ("class", "c", (), None), ("class", "d", (), use("b")),
                ("parameter", "t", "plain", None), ("class", "box", ("t",), None), ("class", "lone", (), use("box", use("a")))]
        self.check(("class", "e", (), None), False, four)
        self.check(("class", "e", (), use("a")), False, four)
        self.check(("class", "e", (), use("d")), False, four)
        self.check(("class", "e", (), use("box", use("a"))), True, four)
        self.check(("class", "e", (), use("lone")), True, four)
        self.check(("class", "e", ("t",), None), True, four)
        self.check(("class", "e", ("t",), use("a")), True, four)
        self.check(("alias", "e", (), use("a")), True, four)
        self.check(("class", "e", (), None), True, four[:2] + four[3:])

    def test_core(self):
        self.assertEqual(Book().core(), [])
        self.assertEqual(book().core(), ["bool", "int"])
        self.assertEqual(wide().core(), ["bool", "int", "str"])
        found = Book([("class", "z", (), None), ("parameter", "t", "plain", None), ("class", "y", ("t",), None),
                      ("class", "x", (), use("z")), ("class", "w", (), use("y", use("z"))), ("class", "v", (), use("w")),
                      ("class", "u", ("t",), use("z")), ("alias", "a", (), use("z")), ("class", "b", (), use("x")),
                      ("class", "c", (), use("u", use("z")))])
        self.assertEqual(found.core(), ["b", "x", "z"])


class Sizes(Checks):
    """The unjoined sizes of climbs and of expanded bodies."""

    BEFORE = ENTRIES + [("class", "r", ("ts",), None)]

    def large(self, ones, others):
        """A use of r with so many t and so many int."""
        return use("r", row(*[T] * ones, *[I] * others))

    def filler(self, nodes):
        return use("r", row(*[L] * (nodes - 1)))

    def test_climbs(self):
        for ones, others, nodes, right in [(10, 9, 14, True), (10, 8, 14, True), (10, 0, 15, False), (11, 8, 13, False),
                                           (11, 7, 13, False), (11, 6, 13, True), (1, 18, 17, True), (10, 9, 15, False)]:
            before = self.BEFORE + [("class", "c", ("t",), self.large(ones, others))]
            self.check(("class", "x", (), use("c", self.filler(nodes))), right, before)
            self.check(("class", "x", ("t",), use("c", self.filler(nodes))), right, before)
            # Only the climb counts, not what a value would climb to.
            self.check(("class", "x", (), use("box", use("c", self.filler(nodes)))), True, before)

    def test_climbs_of_several_steps(self):
        chain = self.BEFORE + [("class", "a", ("t",), None)]
        for one, other in ["ab", "bc", "cd", "de", "ef", "fg"]:
            chain.append(("class", other, ("t",), use(one, use("tab", T, row(T)))))
        self.check(("class", "x", ("t",), use("g", T)), True, chain)
        self.check(("class", "x", ("t",), use("g", use("box", T))), False, chain)
        self.check(("class", "x", ("t",), use("g", use("tab", T, row(T)))), False, chain)
        self.check(("class", "x", ("t",), use("f", use("tab", T, row(T)))), True, chain)

    def test_climbs_are_counted_unjoined(self):
        before = self.BEFORE + [("class", "f", ("t",), use("r", row(*[union(T, I)] * 5))),
                                ("class", "e", ("t",), use("f", union(I, use("tab", T, row(T)))))]
        self.check(("class", "x", (), use("e", self.filler(12))), True, before)
        self.check(("class", "x", (), use("e", self.filler(13))), False, before)
        joined = Book(before).facts
        with self.assertRaises(TooLarge) as caught:
            bases_of(joined, use("e", self.filler(13)))
        self.assertEqual(caught.exception.limit, 150)
        found = bases_of(joined, use("e", self.filler(12)))
        inner = use("tab", self.filler(12), row(self.filler(12)))
        self.assertEqual(found, [use("f", union(I, inner)), use("r", row(*[union(I, inner)] * 5))])

    def test_bodies(self):
        for ones, others, nodes, right in [(10, 9, 14, True), (10, 8, 14, True), (10, 0, 15, False), (11, 8, 13, False),
                                           (11, 7, 13, False), (11, 6, 13, True), (1, 18, 17, True), (10, 9, 15, False)]:
            before = self.BEFORE + [("alias", "c", ("t",), self.large(ones, others)), ("alias", "same", ("t",), T)]
            body = use("c", self.filler(nodes))
            self.check(("alias", "x", (), body), right, before)
            self.check(("alias", "x", ("t",), body), right, before)
            self.check(("alias", "x", (), use("same", body)), right, before)
            self.check(("alias", "x", (), use("box", body)), right and ones * nodes + others < 149, before)
            # A base is not expanded.
            self.check(("class", "x", (), use("box", body)), True, before)

    def test_each_term_in_a_body(self):
        before = self.BEFORE + [("alias", "c", ("t",), self.large(10, 9)), ("alias", "d", ("t",), self.large(10, 0)),
                                ("alias", "drop", ("t",), I), ("alias", "none", ("ts",), I), ("alias", "no", ("p",), I)]
        small, large = use("c", self.filler(14)), use("d", self.filler(15))
        for term, right in [(small, True), (large, False)]:
            self.check(("alias", "x", (), use("drop", term)), right, before)
            self.check(("alias", "x", (), use("none", row(term))), right, before)
            self.check(("alias", "x", (), use("none", row(I, many(term)))), right, before)
            self.check(("alias", "x", (), use("no", inputs(I, term, tail="..."))), right, before)
            self.check(("alias", "x", (), use("no", inputs(many(term)))), right, before)
            self.check(("alias", "x", (), use("box", use("drop", use("drop", term)))), right, before)
        self.check(("alias", "x", (), use("drop", use("box", small))), False, before)
        half = use("c", use("box", I))
        self.check(("alias", "x", (), use("none", row(half, half, half, half, half, half))), True, before)

    def test_bodies_are_counted_unjoined(self):
        before = self.BEFORE + [("alias", "c", ("t",), use("r", row(*[union(T, I)] * 5))),
                                ("alias", "d", ("t",), use("c", union(I, use("tab", T, row(T)))))]
        self.check(("alias", "x", (), use("d", self.filler(12))), True, before)
        self.check(("alias", "x", (), use("d", self.filler(13))), False, before)

    def test_aliases_of_aliases(self):
        chain = self.BEFORE + [("alias", "a", ("t",), use("tab", T, row(T)))]
        for one, other in ["ab", "bc", "cd", "de", "ef"]:
            chain.append(("alias", other, ("t",), use(one, use("a", T))))
        self.check(("alias", "g", ("t",), use("e", T)), True, chain)
        self.check(("alias", "g", ("t",), use("f", use("a", T))), False, chain)
        self.check(("alias", "g", ("t",), use("f", T)), True, chain)

    def test_against_the_reference(self):
        table = {entry[1]: entry for entry in WIDE}
        facts = wide().facts
        maker = Maker(3, ["int", "bool", "t", "n"], ["ts"], ["p"], USES)
        mappings = [{}, {"t": union(L, N)}, {"n": I, "t": arrow(inputs(tail="p"), I)}, {"ts": row()},
                    {"ts": row(I, star("ts"), many(T)), "p": inputs()}, {"p": inputs(L, tail="...")},
                    {"p": inputs(many(I), tail="p"), "t": union(I, L)}]
        for at in range(600):
            term = maker.term(4)
            if reference.is_term(term) and reference.misfit(table, term) is None:
                flat = reference.expanded(table, term, reference.unjoined)
                self.assertEqual(unjoined_size(facts.weights, laid_out(term), {}), len(reference.nodes(flat)))
                mapping = mappings[at % len(mappings)]
                flat = reference.put(term, mapping, reference.unjoined)
                sizes = {name: size(mapping[name]) for name in mapping}
                self.assertEqual(unjoined_size({}, laid_out(term), sizes), len(reference.nodes(flat)))
                self.assertEqual(replaced(term, mapping), reference.put(term, mapping))
                self.assertIs(is_term(replaced(term, mapping)), True)


class Replaced(unittest.TestCase):
    """Entries with a part replaced, left out or doubled, against the reference."""

    EXTRA = [
        ("parameter", "x", "plain", ("bool", "int", "str")), ("class", "pack", ("n", "ts"), use("tab", N, row(star("ts")))),
        ("class", "top", ("p",), use("task", inputs(I, tail="p"), use("same", I))),
        ("alias", "sum", ("t", "p"), union(T, arrow(inputs(many(L), tail="p"), use("same", T))))]

    def check(self, entries):
        expected = reference.first_wrong(entries)
        try:
            found = Book(entries)
        except NoBook as error:
            self.assertEqual(error.position, expected, entries)
            return
        self.assertIsNone(expected, entries)
        self.assertEqual(found.entries(), entries)
        table = {entry[1]: entry for entry in entries}
        self.assertEqual(found.core(), sorted(reference.core(table)))

    def test_each_part(self):
        before = WIDE[:15]
        for entry in self.EXTRA:
            for value in changed_everywhere(entry):
                self.check(before + [value])

    def test_names_replaced(self):
        names = [entry[1] for entry in WIDE] + ["none", "->", "...", "plain", ""]
        for at, entry in enumerate(WIDE):
            for value in self.renamed(entry, names):
                self.check(WIDE[:at] + [value] + WIDE[at + 1:])

    def renamed(self, value, names):
        """The value with each of its strings replaced by each of the names."""
        if isinstance(value, str):
            yield from names
        if isinstance(value, tuple):
            for at, inner in enumerate(value):
                for other in self.renamed(inner, names):
                    yield value[:at] + (other,) + value[at + 1:]

    def test_entries_left_out_or_moved(self):
        for at in range(len(WIDE)):
            self.check(WIDE[:at] + WIDE[at + 1:])
            self.check(WIDE[:at] + [WIDE[at]] + WIDE[at:])
            for other in range(len(WIDE)):
                entries = WIDE[:at] + WIDE[at + 1:]
                self.check(entries[:other] + [WIDE[at]] + entries[other:])


class Books(unittest.TestCase):

    def test_values_that_are_no_lists(self):
        for value in [None, 0, True, False, "", "abc", {}, object(), 10 ** 39]:
            with self.assertRaises(NoBook) as caught:
                Book(value)
            self.assertEqual(caught.exception.position, -1)

    def test_at_most_twenty(self):
        names = ["x" + sign for sign in "abcdefghijklmnopqrstuvwxyz"]
        entries = [("parameter", name, "plain", None) for name in names]
        self.assertEqual(len(Book(entries[:20])), 20)
        for value in [entries[:21], tuple(entries[:21]), [None] * 21]:
            with self.assertRaises(NoBook) as caught:
                Book(value)
            self.assertEqual(caught.exception.position, -1)
        with self.assertRaises(NoBook) as caught:
            Book(entries[:20]).with_entry(entries[20])
        self.assertEqual(caught.exception.position, -1)

    def test_first_wrong_entry(self):
        for value, position in [([None], 0), ((None,), 0), (ENTRIES + [None, None], 8), (ENTRIES[::-1], 0),
                                (ENTRIES[:3] + ENTRIES, 3), (ENTRIES[:1] + [("class", "a", (), T)] + ENTRIES[1:], 1),
                                (ENTRIES[:2] + ENTRIES[3:], 4), ([I], 0), ([ENTRIES], 0), ("abc", -1), (wrapped(300), 0),
                                (wrapped(300, I, tuple), 0)]:
            with self.assertRaises(NoBook) as caught:
                Book(value)
            self.assertEqual(caught.exception.position, position)

    def test_entries_and_names(self):
        for entries in [[], ENTRIES[:1], ENTRIES, WIDE]:
            found = Book(entries)
            self.assertEqual(found.entries(), entries)
            self.assertEqual(Book(tuple(entries)).entries(), entries)
            self.assertEqual(found.names(), [entry[1] for entry in entries])
            for kinds in [("class",), ("alias",), ("parameter",), ("class", "alias"), ("alias", "class", "parameter"),
                          ("other",)]:
                self.assertEqual(found.names(*kinds), [entry[1] for entry in entries if entry[0] in kinds])
            self.assertEqual(len(found), len(entries))
            self.assertEqual(repr(found), f"Book({len(entries)} entries)")

    def test_entry(self):
        found = wide()
        for entry in WIDE:
            self.assertEqual(found.entry(entry[1]), entry)
            self.assertIs(entry[1] in found, True)
        for value in JUNK + ["none", "x", wrapped(320), [], ["int"], ("int",), {}]:
            if value == "int":
                continue
            self.assertIs(value in found, False)
            with self.assertRaises(NoName) as caught:
                found.entry(value)
            self.assertIs(caught.exception.name, value)

    def test_with_entry(self):
        found = book()
        more = found.with_entry(("class", "new", (), None))
        self.assertEqual(more.entries(), ENTRIES + [("class", "new", (), None)])
        self.assertEqual(found, book())
        self.assertEqual(more, Book(ENTRIES + [("class", "new", (), None)]))
        for value in JUNK + [ENTRIES[0], wrapped(300)]:
            with self.assertRaises(NoBook) as caught:
                found.with_entry(value)
            self.assertEqual(caught.exception.position, 8)
        self.assertEqual(found, book())

    def test_equal_books(self):
        self.assertTrue(book() == Book(tuple(ENTRIES)))
        self.assertFalse(book() != Book(tuple(ENTRIES)))
        self.assertTrue(Book() == Book([]))
        for other in [Book(), Book(ENTRIES[:-1]), wide(), Book(ENTRIES[:1]), ENTRIES, tuple(ENTRIES), None,
                      0, "Book(8 entries)"]:
            self.assertFalse(book() == other)
            self.assertTrue(book() != other)
        swapped = [ENTRIES[0], ENTRIES[2], ENTRIES[1]]
        self.assertFalse(Book(swapped) == Book(ENTRIES[:3]))

    def test_nothing_is_kept_or_shared(self):
        entries = copy.deepcopy(ENTRIES)
        found = Book(entries)
        self.assertEqual(entries, ENTRIES)
        entries.append(None)
        found.entries().clear()
        found.names().clear()
        found.core().clear()
        self.assertEqual(found.entries(), ENTRIES)
        self.assertEqual(found.names(), [entry[1] for entry in ENTRIES])
        self.assertEqual(found.core(), ["bool", "int"])

    def test_by_name(self):
        self.assertEqual(Book(entries=ENTRIES).entry(name="int"), ENTRIES[0])
        self.assertEqual(len(Book().with_entry(entry=ENTRIES[0])), 1)
