"""Promises 1, 2 and 17, and the interface: the program as a whole."""

import ast
import copy
import importlib
import inspect
import itertools
import pathlib
import unittest

from aliasparams.alike import closed_values, have_same_shape, parting
from aliasparams.books import Book
from aliasparams.bounds import climb, heads, is_within
from aliasparams.checker import holds
from aliasparams.desk import Desk
from aliasparams.expansion import expanded, full_size, same
from aliasparams.fits import misfit, parameters
from aliasparams.kept import Kept
from aliasparams.names import is_name
from aliasparams.objects import Alias
from aliasparams.papers import paper_of
from aliasparams.registry import Registry
from aliasparams.substitution import applied, composed, filled, is_solvable, matched, solved, substituted
from aliasparams.terms import arguments, equal, is_term, joined, key, made, origin, size
from aliasparams.texts import read, read_argument, show
from tests.samples import (
    I, L, Maker, T, WIDE, alias, arrow, deep, deep_in_rows, inputs, made_class, many, parameter, row, star, told_by, union, use, uses_of,
    wide, wrapped)

FOLDER = pathlib.Path(__file__).resolve().parent.parent / "aliasparams"

# Of each file its functions and classes, with the names of the arguments.
FUNCTIONS = {
    "names": {"is_name": "value"},
    "terms": {"is_term": "value", "size": "term", "equal": "one other", "key": "term", "joined": "*terms", "origin": "term", "arguments": "term",
              "made": "origin arguments"},
    "texts": {"show": "term", "read": "book text", "read_argument": "book text"},
    "fits": {"misfit": "book term", "parameters": "book term"},
    "bounds": {"heads": "book term", "is_within": "book term bound", "climb": "book term"},
    "substitution": {"matched": "book names row", "substituted": "book term mapping", "filled": "book term **values", "applied": "book term row",
                     "is_solvable": "book term", "solved": "book term result", "composed": "book first second"},
    "expansion": {"expanded": "book term", "full_size": "book term", "same": "book one other"},
    "alike": {"closed_values": "book name", "parting": "book one other", "have_same_shape": "book one other"},
    "papers": {"paper_of": "book claim"},
    "checker": {"holds": "book claim paper"},
}
METHODS = {
    "errors": {
        "NoBook": {"__init__": "position"}, "NoName": {"__init__": "name"}, "NoTerm": {"__init__": "number reason"},
        "NoArgument": {"__init__": "position reason"}, "WrongCount": {"__init__": "given needed"}, "TooLarge": {"__init__": "limit"},
        "OtherShape": {"__init__": "one other"}, "NoText": {"__init__": "text"}, "NoClaim": {"__init__": "claim"}, "NoChange": {"__init__": "name"},
        "NoCommand": {"__init__": ""}, "NothingToUndo": {"__init__": ""}},
    "books": {"Book": {"__init__": "entries=()", "entries": "", "names": "*kinds", "entry": "name", "core": "", "with_entry": "entry", "__eq__": "other",
                       "__len__": "", "__contains__": "name", "__repr__": ""}},
    "registry": {"Registry": {"__init__": "book=None", "add": "entry", "set_bound": "name bound", "set_base": "name base", "set_body": "name body",
                              "drop": "name", "undo": "", "table": "name", "book": None, "__len__": "", "twin": "", "__repr__": ""}},
    "kept": {"Kept": {"__init__": "book * most=8", "result": "term row", "hits": None, "misses": None, "__len__": "", "turn": "book", "kept_calls": ""}},
    "objects": {"Alias": {"__init__": "book term", "term": None, "origin": None, "arguments": None, "parameters": None, "with_arguments": "*values",
                          "joined_with": "other", "__eq__": "other", "__len__": "", "__bool__": "", "__contains__": "name", "__str__": "", "__repr__": "",
                          "of": "book name"}},
    "desk": {"Desk": {"__init__": "", "say": "command"}},
}


def written_arguments(function):
    found = []
    for name, kind in inspect.signature(function).parameters.items():
        if name == "self":
            continue
        if kind.kind == kind.KEYWORD_ONLY and not any(word.startswith("*") for word in found):
            found.append("*")
        sign = {kind.VAR_POSITIONAL: "*", kind.VAR_KEYWORD: "**"}.get(kind.kind, "")
        found.append(sign + name + ("" if kind.default is kind.empty else f"={kind.default!r}"))
    return " ".join(found)


class Interface(unittest.TestCase):

    def test_functions(self):
        for file, functions in FUNCTIONS.items():
            defined = [node.name for node in ast.parse((FOLDER / (file + ".py")).read_text()).body if isinstance(node, ast.FunctionDef)]
            for name, expected in functions.items():
                self.assertIn(name, defined)
                self.assertEqual(written_arguments(getattr(importlib.import_module("aliasparams." + file), name)), expected)

    def test_classes(self):
        for file, classes in METHODS.items():
            for name, methods in classes.items():
                node = [node for node in ast.parse((FOLDER / (file + ".py")).read_text()).body if getattr(node, "name", "") == name][0]
                defined = [inner.name for inner in node.body if isinstance(inner, ast.FunctionDef)]
                kind = getattr(importlib.import_module("aliasparams." + file), name)
                for method, expected in methods.items():
                    self.assertIn(method, defined)
                    if expected is None:
                        self.assertIsInstance(vars(kind)[method], property)
                    else:
                        self.assertEqual(written_arguments(getattr(kind, method)), expected, (name, method))
        self.assertIsInstance(vars(Alias)["of"], classmethod)
        self.assertTrue(inspect.isgeneratorfunction(closed_values))


# Of each function that takes any value: the call, and what it may tell.
def any_value_calls():
    given, registry, kept, alias_object, desk = wide(), Registry(wide()), Kept(wide()), Alias(wide(), use("box", T)), Desk()
    return {
        "is_name": (is_name, "returned"), "is_term": (is_term, "returned"),
        "in book": (given.__contains__, "returned"), "in alias": (alias_object.__contains__, "returned"),
        "Book": (Book, "NoBook"), "Book of one": (lambda value: Book([value]), "NoBook"), "with_entry": (given.with_entry, "NoBook"),
        "bound of an entry": (lambda value: given.with_entry(parameter("z", "plain", value)), "NoBook"),
        "parameters of an entry": (lambda value: given.with_entry(("class", "z", value, None)), "NoBook"),
        "base of an entry": (lambda value: given.with_entry(made_class("z", base=value)), "NoBook"),
        "body of an entry": (lambda value: given.with_entry(alias("z", (), value)), "NoBook"),
        "entry": (given.entry, "NoName"), "misfit": (lambda value: misfit(given, value), "NoTerm"), "parameters": (lambda value: parameters(given, value), "NoTerm"),
        "heads": (lambda value: heads(given, value), "NoTerm"), "is_within": (lambda value: is_within(given, value, ("int",)), "NoTerm"),
        "climb": (lambda value: climb(given, value), "NoTerm"), "expanded": (lambda value: expanded(given, value), "NoTerm"),
        "full_size": (lambda value: full_size(given, value), "NoTerm"), "same": (lambda value: same(given, I, value), "NoTerm"),
        "read": (lambda value: read(given, value), "NoText"), "read_argument": (lambda value: read_argument(given, value), "NoText"),
        "matched": (lambda value: matched(given, ("t",), [value]), "NoArgument"), "matched items": (lambda value: matched(given, ("ts",), [value]), "NoArgument"),
        "substituted": (lambda value: substituted(given, value, {}), "NoTerm"), "mapping": (lambda value: substituted(given, T, {"t": value}), "NoArgument"),
        "filled": (lambda value: filled(given, value), "NoTerm"), "filled values": (lambda value: filled(given, T, ts=value), "NoArgument"),
        "applied": (lambda value: applied(given, value, []), "NoTerm"), "applied row": (lambda value: applied(given, T, [value]), "NoArgument"),
        "is_solvable": (lambda value: is_solvable(given, value), "NoTerm"), "solved": (lambda value: solved(given, value, I), "NoTerm"),
        "result": (lambda value: solved(given, T, value), "NoTerm"), "composed": (lambda value: composed(given, {"t": value}, {}), "NoArgument"),
        "composed second": (lambda value: composed(given, {}, {"p": value}), "NoArgument"),
        "closed_values": (lambda value: next(closed_values(given, value)), "NoName"), "parting": (lambda value: parting(given, "same", value), "NoName"),
        "have_same_shape": (lambda value: have_same_shape(given, value, "same"), "NoName"),
        "add": (registry.add, "NoBook"), "set_bound": (lambda value: registry.set_bound(value, None), "NoName"),
        "bound": (lambda value: registry.set_bound("n", value), "NoBook"), "set_base": (lambda value: registry.set_base(value, None), "NoName"),
        "base": (lambda value: registry.set_base("int", value), "NoBook"), "set_body": (lambda value: registry.set_body(value, I), "NoName"),
        "body": (lambda value: registry.set_body("same", value), "NoBook"), "drop": (registry.drop, "NoName"), "table": (registry.table, "NoName"),
        "kept": (lambda value: kept.result(value, []), "NoTerm"), "kept row": (lambda value: kept.result(T, [value]), "NoArgument"),
        "Alias": (lambda value: Alias(given, value), "NoTerm"), "of": (lambda value: Alias.of(given, value), "NoName"),
        "with_arguments": (alias_object.with_arguments, "NoText"), "joined_with": (alias_object.joined_with, "NoText"),
        "== alias": (alias_object.__eq__, "returned"), "== book": (given.__eq__, "returned"),
        "paper_of": (lambda value: paper_of(given, value), "NoClaim"), "claimed term": (lambda value: paper_of(given, ("within", value, ("int",))), "NoClaim"),
        "claimed bound": (lambda value: holds(given, ("within", I, value), ()), "NoClaim"), "holds": (lambda value: holds(given, value, ()), "NoClaim"),
        "paper": (lambda value: holds(given, ("within", I, ("int",)), value), "returned"),
        "paper of aliases": (lambda value: holds(given, ("alike", "same", "same"), value), "returned"),
        "row that parts": (lambda value: holds(given, ("parted", "same", "same"), (value,)), "returned"),
        "chain": (lambda value: holds(given, ("outside", I, ("str",)), ("int", value)), "returned"),
        "chains": (lambda value: holds(given, ("within", I, ("int",)), (("int", value),)), "returned"),
        "tests": (lambda value: holds(given, ("alike", "same", "same"), (("fresh", value),)), "returned"),
        "say": (desk.say, "NoCommand"),
    }


def returned_values():
    """Returned values with parts replaced by others, far deeper than any value may be."""
    given = Book([made_class("a"), parameter("ts", "variadic"), made_class("r", "ts"), parameter("t")])
    term = T
    for _ in range(148):
        term = use("r", row(term))
    term = use("r", row(term))
    deep_one = use("r", row(substituted(given, deep_in_rows(0, T), {"t": term})))
    for _ in range(4):
        deep_one = (deep_one[0], (("[]", (term, deep_one)),))
    nested = term
    for _ in range(6):
        nested = swapped(term, nested)
    return [deep_one, nested, ("[]", (nested,)), ("()", (nested,), None), ("...", nested), (nested,), [nested], {"t": nested}]


def swapped(term, inside):
    """A chain of uses with another value at its end, without calling itself."""
    heads_found = []
    while term != T:
        heads_found.append(term[0])
        term = term[1][0][1][0]
    for head in reversed(heads_found):
        inside = (head, (("[]", (inside,)),))
    return inside


class AnyValue(unittest.TestCase):

    def test_deep_and_large_values(self):
        large = [deep(150), deep(151), deep(1000), deep_in_rows(150), use("tab", I, row(*[I] * 150)), row(*[I] * 151), inputs(*[I] * 151), union(*[use(a + b) for a in
                 "abcdefghijklm" for b in "abcdefghijklm"]), use("x", *[row(*[I] * 20)] * 90), union(I, I)]
        nested = [wrapped(times, inside, kind) for times in (300, 317) for inside in (None, I, "int", 10 ** 39, row()) for kind in (list, tuple)]
        arrows = I
        for _ in range(150):
            arrows = arrow(inputs(arrows), I)
        values = [*large, *nested, arrows, "(" * 2000, "box[" * 400, "*" * 2000, "\n" * 2000, [None] * 2000, (I,) * 2000, *returned_values()]
        for name, (call, expected) in any_value_calls().items():
            for value in values:
                told = told_by(call, value)
                with self.subTest(name=name):
                    self.assertEqual(told[0], expected)
                    if expected == "returned":
                        self.assertIs(told[1], False)

    def test_values_with_parts_replaced(self):
        given = wide()
        paper = paper_of(given, ("alike", "same", "same"))
        nested = returned_values()[1]
        for value in [(("fresh", nested),), (("fresh", ("[]", (nested,))),), (("all", (nested,)),), (nested,), nested, ((nested, paper[0][1]),)]:
            self.assertIs(holds(given, ("alike", "same", "same"), value), False)
        self.assertIs(holds(given, ("within", I, ("int",)), (("int", ((nested,),)),)), False)


def shifted(value, names):
    if isinstance(value, (list, tuple)):
        return type(value)(shifted(inner, names) for inner in value)
    return names.get(value, value) if isinstance(value, str) else value


class Renamed(unittest.TestCase):
    """Names replaced by others, one for each, throughout a book and its terms."""

    def test_answers_follow(self):
        # In the order of the old names, so that bounds stay ascending.
        names = {name: "z" + chr(ord("a") + at) for at, name in enumerate(sorted(entry[1] for entry in WIDE))}
        given, other = wide(), Book(shifted(WIDE, names))
        maker = Maker(3, ["int", "bool", "t", "n", "w", "str"], ["ts"], ["p"], uses_of(WIDE))
        values = {"t": union(I, L), "n": L, "w": I, "ts": row(star("ts"), many(T)), "p": inputs(I, tail="p")}
        seen = 0
        for _ in range(800):
            term = maker.term(2)
            changed = shifted(term, names)
            calls = [
                (misfit, []), (parameters, []), (heads, []), (climb, []), (expanded, []), (full_size, []), (is_solvable, []),
                (lambda book, value: is_within(book, value, shifted(("int", "str"), names if book is other else {})), []),
                (lambda book, value: substituted(book, value, {shifted(name, names if book is other else {}): shifted(inner, names if book is other else {})
                                                               for name, inner in values.items()}), []),
                (lambda book, value: Alias(book, value).parameters, []), (lambda book, value: told_by(read, book, show(value))[0], [])]
            for call, rest in calls:
                told = told_by(call, given, term, *rest)
                self.assertEqual(told_by(call, other, changed, *rest), shifted(told, names))
                seen += told[0] == "returned"
        self.assertGreater(seen, 2000)
        self.assertEqual([name for name in other.core()], [names[name] for name in given.core()])
        for one in given.names("alias"):
            for two in given.names("alias"):
                told = told_by(have_same_shape, given, one, two)
                self.assertEqual(told_by(have_same_shape, other, names[one], names[two]), told)
                if told[1]:
                    found, again = parting(given, one, two), parting(other, names[one], names[two])
                    self.assertEqual(found is None, again is None)
                    for kind in ["parted", "alike"]:
                        paper = paper_of(given, (kind, one, two))
                        self.assertEqual(paper is None, paper_of(other, (kind, names[one], names[two])) is None)
                        if paper is not None:
                            self.assertIs(holds(other, (kind, names[one], names[two]), shifted(paper, names)), True)


class Calls(unittest.TestCase):

    def test_by_name_in_another_order(self):
        given = wide()
        for function, named, expected in [
                (is_name, {"value": "t"}, True), (is_term, {"value": I}, True), (size, {"term": I}, 1), (equal, {"other": I, "one": I}, True),
                (origin, {"term": I}, "int"), (arguments, {"term": I}, ()), (made, {"arguments": (), "origin": "int"}, I), (show, {"term": I}, "int"),
                (read, {"text": "int", "book": given}, I), (read_argument, {"text": "*ts", "book": given}, star("ts")), (misfit, {"term": I, "book": given}, None),
                (parameters, {"term": T, "book": given}, ("t",)), (heads, {"term": T, "book": given}, ["t"]),
                (is_within, {"bound": ("int",), "term": L, "book": given}, True), (climb, {"term": L, "book": given}, [I]),
                (matched, {"row": [I], "names": ("t",), "book": given}, {"t": I}), (substituted, {"mapping": {"t": I}, "term": T, "book": given}, I),
                (filled, {"t": I, "term": T, "book": given}, I), (applied, {"row": [I], "term": T, "book": given}, I), (is_solvable, {"term": T, "book": given}, True),
                (solved, {"result": I, "term": T, "book": given}, {"t": I}), (composed, {"second": {"t": I}, "first": {}, "book": given}, {"t": I}),
                (expanded, {"term": use("same", I), "book": given}, I), (full_size, {"term": use("same", I), "book": given}, 1),
                (same, {"other": I, "one": use("same", I), "book": given}, True), (parting, {"other": "same", "one": "same", "book": given}, None),
                (have_same_shape, {"other": "drop", "one": "same", "book": given}, False), (paper_of, {"claim": ("within", I, ("int",)), "book": given},
                                                                                           (("int", (("int",),)),)),
                (holds, {"paper": (("int", (("int",),)),), "claim": ("within", I, ("int",)), "book": given}, True), (key, {"term": I}, key(I))]:
            for order in itertools.islice(itertools.permutations(named.items()), 6):
                self.assertEqual(function(**dict(order)), expected)
        self.assertEqual(next(closed_values(name="t", book=given)), I)
        self.assertEqual(joined(I, I), I)
        self.assertEqual(Book(entries=[]), Book())
        self.assertEqual(Registry(book=None).book, Book())

    def test_returned_lists_are_new(self):
        given = wide()
        for call in [given.entries, given.names, given.core, lambda: heads(given, union(I, T)), lambda: climb(given, L), Kept(given).kept_calls,
                     lambda: matched(given, ("t",), [I]), lambda: solved(given, T, I), lambda: composed(given, {"t": I}, {})]:
            before = copy.deepcopy(call())
            call().clear()
            self.assertEqual(call(), before)

    def test_objects_equal_nothing_of_another_kind(self):
        given = wide()
        objects = [given, Registry(given), Kept(given), Alias(given, I), Desk()]
        for one in objects:
            for other in [*objects, None, 0, (), [], "", I, given.entries()]:
                self.assertIs(one == other, one is other)


class Python(unittest.TestCase):
    """What differs from CPython."""

    def test_values_are_no_flat_row(self):
        given = wide()
        self.assertEqual(misfit(given, use("tab", I, L, I)), (0, "count"))
        self.assertEqual(misfit(given, use("tab", I, L)), (0, "value"))
        self.assertIsNone(misfit(given, use("tab", I, row(L, I))))
        self.assertEqual(show(use("tab", I, row(L, I))), "tab[int, bool, int]")

    def test_parameters_are_declared(self):
        with_order = Book([*WIDE[:8], alias("z", ("ts", "t"), use("tab", T, row(star("ts"))))])
        self.assertEqual(expanded(with_order, use("z", row(L), I)), use("tab", I, row(L)))
        self.assertEqual(str(Alias.of(with_order, "z")), "z[*ts, t]")

    def test_only_a_variadic_parameter_takes_many(self):
        given = wide()
        self.assertEqual(told_by(applied, given, use("box", T), [many(I)]), ("NoArgument", 0, "kind"))
        self.assertEqual(told_by(applied, given, arrow(inputs(tail="p"), I), [many(I)]), ("NoArgument", 0, "kind"))
        self.assertEqual(applied(given, use("tab", I, row(star("ts"))), [many(I)]), use("tab", I, row(many(I))))

    def test_what_is_not_there(self):
        for entry in [("parameter", "z", "plain", None, I), ("parameter", "z", "plain", I), alias("z", ("t",), use("z", T)), ("literal", "z", (), None),
                      alias("z", (), None), alias("z", (), use("y")), made_class("z", base=use("z"))]:
            self.assertEqual(told_by(wide().with_entry, entry)[0], "NoBook")
        self.assertEqual(told_by(read, wide(), "None"), ("NoText", "None"))
        self.assertEqual(told_by(read, wide(), "dict[str, t]"), ("NoText", "dict[str, t]"))

    def test_arguments_again(self):
        # As dict[str, T][int] in Python.
        given = Book([made_class("str"), made_class("int"), parameter("k"), parameter("v"), made_class("dict", "k", "v"), parameter("t")])
        term = read(given, "dict[str, t]")
        self.assertEqual(show(applied(given, term, [I])), "dict[str, int]")
        self.assertEqual(str(Alias(given, term).with_arguments("int")), "dict[str, int]")
