"""Promises 3, 14 and 15: registries."""

import copy
import random
import unittest

from aliasparams.books import Book
from aliasparams.errors import NoBook
from aliasparams.expansion import expanded
from aliasparams.registry import Registry
from tests import reference
from tests.samples import (
    ENTRIES, I, JUNK, L, T, WIDE, alias, arrow, book, deep, inputs, made_class, many, parameter, row, star, table_of, told_by, union,
    use, wide, wrapped)

N = use("n")

# Entries that rest on others far off: by bases, bodies and bounds.
FAR = [
    made_class("int"), made_class("bool", base=I), made_class("tiny", base=L), made_class("str"),
    parameter("t"), parameter("ts", "variadic"), parameter("n", "plain", ("int",)), made_class("box", "t"),
    made_class("num", "n", base=use("box", N)), made_class("pair", "t", base=use("box", union(T, I))),
    made_class("top", "t", base=use("pair", use("box", T))), made_class("far", base=use("top", use("num", L))),
    alias("one", ("t",), union(T, use("num", I))), alias("two", ("t",), use("box", use("one", T))), alias("three", ("n",), use("two", use("tiny"))),
    made_class("uses", base=use("box", use("one", use("str")))), parameter("m", "plain", ("tiny",)), alias("left", ("m",), use("num", use("m"))),
]


class Checks(unittest.TestCase):

    def check(self, registry, touched, name, *arguments):
        """A change that is not refused, with the names that it touches."""
        before = registry.book
        many = len(registry)
        found = getattr(registry, name)(*arguments)
        self.assertEqual(found, touched)
        self.assertEqual(found, reference.touched(table_of(before.entries()), table_of(registry.book.entries())))
        self.assertEqual(len(registry), many - 1 if name == "undo" else many + 1)
        self.check_tables(registry)

    def check_tables(self, registry):
        table = table_of(registry.book.entries())
        for name in table:
            self.assertEqual(registry.table(name), reference.entry_table(table, name))

    def refused(self, registry, told, name, *arguments):
        before, many, twin = registry.book, len(registry), registry.twin()
        self.assertEqual(told_by(getattr(registry, name), *arguments), told)
        self.assertEqual(registry.book, before)
        self.assertEqual(len(registry), many)
        self.assertEqual(repr(registry), repr(twin))
        self.check_tables(registry)


class Changes(Checks):

    def test_add(self):
        registry = Registry()
        for entry in FAR:
            self.check(registry, [entry[1]], "add", entry)
        self.assertEqual(registry.book, Book(FAR))
        self.assertEqual(len(registry), len(FAR))
        for entry in reversed(FAR):
            self.check(registry, [entry[1]], "undo")
        self.assertEqual(registry.book, Book())

    def test_set_bound(self):
        registry = Registry(Book(FAR))
        self.check(registry, ["n", "num", "three"], "set_bound", "n", ("int", "str"))
        self.check(registry, ["n", "num", "three"], "set_bound", "n", None)
        self.check(registry, ["left", "m"], "set_bound", "m", ("bool",))
        self.check(registry, ["left", "m"], "undo")
        self.check(registry, ["n", "num", "three"], "undo")
        self.check(registry, [], "set_bound", "n", ("int", "str"))
        self.check(registry, [], "set_bound", "t", None)
        self.check(registry, ["left", "m"], "set_bound", "m", ("bool", "tiny"))
        self.assertEqual(registry.table("m"), ("plain", ("bool", "tiny")))
        self.check(registry, [], "set_bound", "ts", None)

    def test_set_base(self):
        registry = Registry(Book(FAR))
        self.check(registry, ["tiny"], "set_base", "tiny", I)
        self.check(registry, ["tiny"], "undo")
        self.check(registry, ["far", "pair", "top"], "set_base", "pair", None)
        self.check(registry, ["far", "pair", "top"], "set_base", "pair", use("box", use("box", T)))
        self.check(registry, ["far", "top"], "set_base", "top", use("pair", T))
        self.check(registry, ["far", "top"], "undo")
        self.check(registry, [], "set_base", "str", None)
        self.check(registry, ["box", "far", "num", "pair", "top", "uses"], "set_base", "box", use("int"))
        self.assertEqual(registry.table("far")[1][-1], I)

    def test_order_of_members_is_a_change(self):
        registry = Registry(Book(FAR))
        self.check(registry, ["far", "pair", "top"], "set_base", "pair", use("box", union(I, T)))
        self.check(registry, ["one", "three", "two"], "set_body", "one", union(use("num", I), T))
        self.check(registry, ["one", "three", "two"], "undo")

    def test_set_body(self):
        registry = Registry(Book(FAR))
        self.check(registry, ["one", "three", "two"], "set_body", "one", T)
        # The base of uses is written with the alias, not with its body.
        self.check(registry, ["three", "two"], "set_body", "two", use("one", use("pair", T)))
        self.check(registry, [], "set_body", "two", use("one", use("one", use("pair", T))))
        self.check(registry, [], "undo")
        self.check(registry, ["three"], "set_body", "three", I)
        self.check(registry, ["two"], "set_body", "two", T)
        self.check(registry, ["two"], "undo")
        self.check(registry, ["left"], "set_body", "left", L)

    def test_names_of_items_and_tails_are_a_change(self):
        entries = [made_class("a"), parameter("ts", "variadic"), parameter("p", "signature"), parameter("q", "signature"), made_class("r", "ts"),
                   alias("b", ("p", "q"), arrow(inputs(tail="p"), use("a"))), parameter("us", "variadic"),
                   made_class("c", "p", "q", base=use("r", row(arrow(inputs(tail="p"), use("a")))))]
        registry = Registry(Book(entries))
        self.check(registry, ["b"], "set_body", "b", arrow(inputs(tail="q"), use("a")))
        self.check(registry, ["b"], "set_body", "b", arrow(inputs(tail="..."), use("a")))
        self.check(registry, ["b"], "set_body", "b", arrow(inputs(), use("a")))
        self.check(registry, [], "set_body", "b", arrow(inputs(), use("a")))
        self.check(registry, ["c"], "set_base", "c", use("r", row(arrow(inputs(tail="q"), use("a")))))
        self.check(registry, ["c"], "set_base", "c", use("r", row(many(use("a")))))
        self.check(registry, ["c"], "set_base", "c", use("r", row(use("a"))))

    def test_drop(self):
        registry = Registry(Book(FAR))
        for entry in reversed(FAR):
            self.check(registry, [entry[1]], "drop", entry[1])
        self.assertEqual(len(registry), len(FAR))
        for entry in FAR:
            self.check(registry, [entry[1]], "undo")
        self.assertEqual(registry.book, Book(FAR))

    def test_drop_in_between(self):
        registry = Registry(book())
        self.check(registry, ["box"], "drop", "box")
        self.assertEqual(registry.book.names(), ["int", "bool", "t", "ts", "p", "tab", "task"])
        self.check(registry, ["tab"], "drop", "tab")
        self.check(registry, ["ts"], "drop", "ts")
        self.check(registry, ["ts"], "undo")
        self.assertEqual(registry.book.names(), ["int", "bool", "t", "ts", "p", "task"])
        self.check(registry, ["box"], "add", made_class("box", "t", "ts"))
        self.assertEqual(registry.book.names()[-1], "box")

    def test_entries_keep_their_places(self):
        registry = Registry(Book(FAR))
        registry.set_bound("n", None)
        registry.set_base("box", None)
        registry.set_body("one", T)
        self.assertEqual(registry.book.names(), [entry[1] for entry in FAR])
        self.assertEqual(registry.book.entry("one"), alias("one", ("t",), T))
        self.assertEqual(registry.book.entry("n"), parameter("n"))

    def test_changes_that_leave_everything(self):
        registry = Registry(Book(FAR))
        self.check(registry, [], "set_bound", "n", ("int",))
        self.check(registry, [], "set_base", "pair", use("box", union(T, I)))
        self.check(registry, [], "set_base", "int", None)
        self.check(registry, [], "set_body", "one", union(T, use("num", I)))
        self.assertEqual(len(registry), 4)
        for _ in range(4):
            self.check(registry, [], "undo")
        self.assertEqual(told_by(registry.undo), ("NothingToUndo",))


class Errors(Checks):

    def test_names_that_are_none(self):
        registry = Registry(Book(FAR))
        registry.set_body("left", L)
        for value in JUNK + ["none", "ints", wrapped(300), ["t"], {}, "T", ("t",), 10 ** 39]:
            for name, rest in [("set_bound", [value]), ("set_base", [value]), ("set_body", [value]), ("drop", []), ("table", [])]:
                if value != "int":
                    self.refused(registry, ("NoName", value), name, value, *rest)

    def test_other_entries(self):
        registry = Registry(Book(FAR))
        for name in ["int", "box", "one"]:
            self.refused(registry, ("NoChange", name), "set_bound", name, None)
            self.refused(registry, ("NoChange", name), "set_bound", name, wrapped(300))
        for name in ["t", "n", "one"]:
            self.refused(registry, ("NoChange", name), "set_base", name, None)
            self.refused(registry, ("NoChange", name), "set_base", name, ())
        for name in ["t", "int", "far"]:
            self.refused(registry, ("NoChange", name), "set_body", name, I)
            self.refused(registry, ("NoChange", name), "set_body", name, None)

    def test_no_book(self):
        registry = Registry(Book(FAR))
        at = {entry[1]: position for position, entry in enumerate(FAR)}
        for value in JUNK + [wrapped(300), ("int", "bool", "tiny", "str", "t"), ("box",), ("str", "int"), ["int"], {}]:
            if value is not None and value != ("int",):
                self.refused(registry, ("NoBook", at["n"]), "set_bound", "n", value)
        for value in [value for value in JUNK if value not in [None, I, L]] + [T, use("far"), use("one", I), wrapped(300, I, tuple), deep(150), use("num", I)]:
            self.refused(registry, ("NoBook", at["bool"]), "set_base", "bool", value)
        for value in [value for value in JUNK if not reference.is_term(value)] + [use("three", I), use("left", use("tiny")), use("num", T),
                                                                              deep(20), use("one", I), wrapped(310)]:
            self.refused(registry, ("NoBook", at["one"]), "set_body", "one", value)
        self.refused(registry, ("NoBook", at["n"]), "set_bound", "n", ("tiny", "bool"))
        # A later entry may stand no more.
        self.refused(registry, ("NoBook", at["far"]), "set_bound", "n", ("str",))
        self.refused(registry, ("NoBook", at["box"]), "set_base", "box", use("num", L))
        self.refused(registry, ("NoBook", 0), "drop", "int")
        self.refused(registry, ("NoBook", at["num"] - 1), "drop", "box")
        self.refused(registry, ("NoBook", at["box"] - 1), "drop", "t")
        self.refused(registry, ("NoBook", at["two"] - 1), "drop", "one")
        self.refused(registry, ("NoBook", at["left"] - 1), "drop", "m")
        self.refused(registry, ("NoBook", at["tiny"]), "set_base", "tiny", use("box", I))

    def test_add(self):
        registry = Registry(Book(FAR))
        for value in JUNK + [wrapped(300), made_class("int"), made_class("x", "none"), parameter("x", "none"), alias("x", (), T)]:
            self.refused(registry, ("NoBook", len(FAR)), "add", value)
        registry.add(parameter("x"))
        registry.add(parameter("y"))
        self.refused(registry, ("NoBook", -1), "add", parameter("z"))
        self.refused(registry, ("NoBook", -1), "add", None)

    def test_nothing_to_undo(self):
        for registry in [Registry(), Registry(wide())]:
            self.refused(registry, ("NothingToUndo",), "undo")
            registry.add(parameter("zz"))
            registry.undo()
            self.refused(registry, ("NothingToUndo",), "undo")


class Histories(Checks):

    def test_undo_of_several(self):
        registry = Registry(Book(FAR))
        books = [registry.book]
        for name, arguments in [("set_body", ("one", T)), ("set_base", ("far", use("box", I))), ("drop", ("left",)), ("add", (parameter("x"),)),
                                ("set_bound", ("t", None))]:
            getattr(registry, name)(*arguments)
            books.append(registry.book)
        self.assertEqual(repr(registry), "Registry(18 entries, 5 changes)")
        for expected in reversed(books[:-1]):
            registry.undo()
            self.assertEqual(registry.book, expected)
        self.assertEqual(repr(registry), "Registry(18 entries, 0 changes)")

    def test_undo_and_on(self):
        registry = Registry(Book(FAR))
        registry.set_body("one", T)
        registry.undo()
        registry.set_body("left", I)
        self.assertEqual(len(registry), 1)
        self.assertEqual(registry.undo(), ["left"])
        self.assertEqual(registry.book, Book(FAR))
        self.assertEqual(told_by(registry.undo), ("NothingToUndo",))

    def test_twin(self):
        registry = Registry(Book(FAR))
        registry.set_body("one", T)
        registry.drop("left")
        twin = registry.twin()
        self.assertEqual((twin.book, len(twin)), (registry.book, 2))
        twin.undo()
        twin.undo()
        self.assertEqual(twin.book, Book(FAR))
        self.assertEqual(len(registry), 2)
        self.assertEqual(registry.book.names("alias"), ["one", "two", "three"])
        registry.add(parameter("x"))
        self.assertEqual(len(twin), 0)
        self.assertEqual(told_by(twin.undo), ("NothingToUndo",))
        again = registry.twin()
        registry.undo()
        self.assertEqual(again.undo(), ["x"])
        self.assertIsNot(again, registry)

    def test_random_histories(self):
        chance = random.Random(12)
        registry = Registry()
        books = [registry.book]
        bounds = [None, ("int",), ("bool",), ("int", "str"), ("tiny",)]
        terms = [None, I, L, use("str"), use("box", T), use("box", I), use("pair", T), use("one", T), union(T, I), use("num", L), use("top", L),
                 use("tab", T, row(star("ts"), many(T))), arrow(inputs(), I)]
        seen = {}
        for _ in range(3000):
            names = [entry[1] for entry in FAR] + ["none"]
            name = chance.choice(names)
            way = chance.choice(["add", "add", "set_bound", "set_base", "set_body", "drop", "undo"])
            arguments = {"add": [chance.choice(FAR)], "set_bound": [name, chance.choice(bounds)], "set_base": [name, chance.choice(terms)],
                         "set_body": [name, chance.choice(terms)], "drop": [name], "undo": []}[way]
            before = registry.book
            told = told_by(getattr(registry, way), *arguments)
            seen[way, told[0]] = True
            if told[0] != "returned":
                self.assertEqual(registry.book, before)
            elif way == "undo":
                books.pop()
            else:
                books.append(registry.book)
            self.assertEqual(registry.book, books[-1])
            self.assertEqual(len(registry), len(books) - 1)
            if told[0] == "returned":
                self.assertEqual(told[1], reference.touched(table_of(before.entries()), table_of(registry.book.entries())))
        self.assertGreaterEqual(len(seen), 12)
        self.check_tables(registry)


class Tables(Checks):

    def test_tables(self):
        registry = Registry(Book(FAR))
        self.assertEqual(registry.table("t"), ("plain", None))
        self.assertEqual(registry.table("ts"), ("variadic", None))
        self.assertEqual(registry.table("n"), ("plain", ("int",)))
        self.assertEqual(registry.table("int"), ((), ()))
        self.assertEqual(registry.table("tiny"), ((), (L, I)))
        self.assertEqual(registry.table("num"), ((("n", "plain", ("int",)),), (use("box", N),)))
        self.assertEqual(registry.table("top"), ((("t", "plain", None),), (use("pair", use("box", T)), use("box", union(use("box", T), I)))))
        self.assertEqual(registry.table("one"), ((("t", "plain", None),), union(T, use("num", I))))
        self.assertEqual(registry.table("three"), ((("n", "plain", ("int",)),), use("box", union(use("tiny"), use("num", I)))))
        self.assertEqual(registry.table("uses"), ((), (use("box", use("one", use("str"))),)))
        self.check_tables(registry)
        self.check_tables(Registry(wide()))

    def test_deep_tables(self):
        entries = [made_class("a"), parameter("ts", "variadic"), made_class("r", "ts"), parameter("t")]
        body = T
        for _ in range(8):
            body = use("r", row(many(body)))
        entries.append(alias("b", ("t",), body))
        for one, other in ["bc", "cd", "de"]:
            entries.append(alias(other, ("t",), use(one, use(one, T))))
        registry = Registry(Book(entries))
        self.assertEqual(told_by(registry.add, alias("f", (), use("e", use("a"))))[0], "returned")
        self.assertEqual(registry.table("f")[1], expanded(registry.book, use("e", use("a"))))
        self.assertEqual(registry.set_body("b", T), ["b", "c", "d", "e", "f"])
        self.assertEqual(registry.table("f"), ((), use("a")))
        self.assertEqual(registry.undo(), ["b", "c", "d", "e", "f"])


class Objects(Checks):

    def test_book_len_and_repr(self):
        registry = Registry()
        self.assertEqual((registry.book, len(registry), repr(registry)), (Book(), 0, "Registry(0 entries, 0 changes)"))
        registry = Registry(book=book())
        self.assertEqual((registry.book, len(registry), repr(registry)), (book(), 0, "Registry(8 entries, 0 changes)"))
        self.assertEqual(Registry(None).book, Book())
        registry.add(entry=parameter("u"))
        self.assertEqual((len(registry), repr(registry)), (1, "Registry(9 entries, 1 changes)"))
        with self.assertRaises(AttributeError):
            registry.book = Book()

    def test_by_name(self):
        registry = Registry(Book(FAR))
        self.assertEqual(registry.set_bound(bound=("bool",), name="m"), ["left", "m"])
        self.assertEqual(registry.set_base(base=use("box", I), name="far"), ["far"])
        self.assertEqual(registry.set_body(body=I, name="left"), ["left"])
        self.assertEqual(registry.drop(name="left"), ["left"])
        self.assertEqual(registry.table(name="far"), ((), (use("box", I),)))

    def test_objects_apart(self):
        given = book()
        one, other = Registry(given), Registry(given)
        one.drop("task")
        self.assertEqual(other.book, book())
        self.assertEqual(given, book())
        self.assertNotEqual(one, other)
        entries = copy.deepcopy(ENTRIES)
        found = one.set_base("bool", None)
        found.append("x")
        self.assertEqual(one.undo(), ["bool"])
        self.assertEqual(entries, ENTRIES)
        for other in [None, given, "Registry(8 entries, 0 changes)", 0, [], WIDE]:
            self.assertIs(one == other, False)
        with self.assertRaises(NoBook):
            one.add(None)
