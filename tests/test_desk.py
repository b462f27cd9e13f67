"""The console: commands, their answers and their errors."""

import unittest

from aliasparams.desk import Desk
from aliasparams.registry import Registry
from tests.samples import I, JUNK, L, T, deep, told_by, union, use, wrapped

START = ["class int", "class bool int", "plain t", "plain n int", "variadic ts", "signature p", "class box[t]", "class tab[t, ts]", "class task[p, t]",
         "class num[n] box[n]", "alias some[t] = t | int", "alias call[p, t] = (**p) -> t"]
NO = ("NoCommand",)


def desk_with(*commands):
    desk = Desk()
    for command in [*START, *commands]:
        desk.say(command)
    return desk


class Checks(unittest.TestCase):

    def setUp(self):
        self.desk = desk_with()

    def answers(self, command, answer, desk=None):
        self.assertEqual(told_by((desk or self.desk).say, command), ("returned", answer), command)

    def refused(self, command, *told):
        """The error of a command, which leaves everything as it is."""
        self.assertEqual(told_by(self.desk.say, command), told, command)
        self.check_state()

    def check_state(self):
        """Everything is as the commands of the start leave it."""
        registry = self.desk._registry
        other = desk_with()._registry
        self.assertEqual(registry.book, other.book)
        self.assertEqual(len(registry), len(other))


class Changes(Checks):

    def test_answers_of_the_start(self):
        desk = Desk()
        for command in START:
            self.assertEqual(desk.say(command), command.split(" ")[1].partition("[")[0])
        self.assertIsInstance(desk._registry, Registry)
        self.assertEqual(repr(desk._registry), "Registry(12 entries, 12 changes)")

    def test_parameters(self):
        self.answers("plain u", "u")
        self.answers("plain m bool int", "m")
        self.answers("plain k bool", "k")
        self.answers("variadic us", "us")
        self.answers("signature q", "q")
        book = self.desk._registry.book
        self.assertEqual([book.entry(name) for name in ["u", "m", "k", "us", "q"]], [
            ("parameter", "u", "plain", None), ("parameter", "m", "plain", ("bool", "int")), ("parameter", "k", "plain", ("bool",)),
            ("parameter", "us", "variadic", None), ("parameter", "q", "signature", None)])

    def test_classes_and_aliases(self):
        self.answers("class x", "x")
        self.answers("class y x", "y")
        self.answers("class w[t]", "w")
        self.answers("class v[t] box[box[t] | int]", "v")
        self.answers("class z[p, ts, t] tab[(**p) -> t, *ts, (int | t)...]", "z")
        self.answers("alias f = int", "f")
        self.answers("alias g[ts, p] = (*ts, **p) -> (int | bool)", "g")
        book = self.desk._registry.book
        self.assertEqual(book.entry("x"), ("class", "x", (), None))
        self.assertEqual(book.entry("y"), ("class", "y", (), use("x")))
        self.assertEqual(book.entry("w"), ("class", "w", ("t",), None))
        self.assertEqual(book.entry("v"), ("class", "v", ("t",), use("box", union(use("box", T), I))))
        self.assertEqual(book.entry("z")[2], ("p", "ts", "t"))
        self.assertEqual(book.entry("f"), ("alias", "f", (), I))
        self.assertEqual(book.entry("g"), ("alias", "g", ("ts", "p"), ("->", ("()", (("*", "ts"),), "p"), union(I, L))))

    def test_changes_and_undo(self):
        self.answers("bound n bool", "n num")
        self.answers("undo", "n num")
        self.answers("base bool", "bool")
        self.answers("base num box[box[n]]", "num")
        self.answers("base num", "num")
        self.answers("base num", "none")
        self.answers("body some int", "some")
        self.answers("body some int", "none")
        self.answers("body some box[t] | (() -> t)", "some")
        self.answers("drop call", "call")
        for answer in ["call", "some", "none", "some", "none", "num", "num", "bool"]:
            self.answers("undo", answer)
        self.check_state()
        for command in reversed(START):
            self.answers("undo", command.split(" ")[1].partition("[")[0])
        self.assertEqual(told_by(self.desk.say, "undo"), ("NothingToUndo",))

    def test_bounds_of_several(self):
        self.answers("bound n bool int", "n num")
        self.answers("bound n", "n num")
        self.answers("bound t", "none")
        self.assertEqual(self.desk._registry.table("n"), ("plain", None))

    def test_errors_of_changes(self):
        self.refused("plain t", "NoBook", 12)
        self.refused("plain u int bool", "NoBook", 12)
        self.refused("plain u int int", "NoBook", 12)
        self.refused("plain u box", "NoBook", 12)
        self.refused("plain u a b c d e", "NoBook", 12)
        self.refused("variadic int", "NoBook", 12)
        self.refused("class x[u]", "NoBook", 12)
        self.refused("class x[t, t]", "NoBook", 12)
        self.refused("class x some[int]", "NoBook", 12)
        self.refused("class x int | bool", "NoBook", 12)
        self.refused("class x box[t]", "NoBook", 12)
        self.refused("alias x = box[t]", "NoBook", 12)
        self.refused("alias some = int", "NoBook", 12)
        self.refused("bound none", "NoName", "none")
        self.refused("bound none int", "NoName", "none")
        self.refused("bound int", "NoChange", "int")
        self.refused("bound ts int", "NoBook", 4)
        self.refused("bound n box", "NoBook", 3)
        self.refused("base none", "NoName", "none")
        self.refused("base t int", "NoChange", "t")
        self.refused("base int box[int]", "NoBook", 0)
        self.refused("body none int", "NoName", "none")
        self.refused("body int int", "NoChange", "int")
        self.refused("body some box[n]", "NoBook", 10)
        self.refused("drop none", "NoName", "none")
        self.refused("drop int", "NoBook", 0)
        self.refused("drop box", "NoBook", 8)

    def test_texts_are_read_first(self):
        self.refused("class t none", "NoText", "none")
        self.refused("class x[none] none", "NoText", "none")
        self.refused("alias t = none", "NoText", "none")
        self.refused("alias x[none] = int |", "NoText", "int |")
        self.refused("base none none", "NoText", "none")
        self.refused("base t none", "NoText", "none")
        self.refused("body none none", "NoText", "none")
        self.refused("body t int[]", "NoText", "int[]")
        self.refused("class x ", "NoText", "")
        self.refused("class x[t] ", "NoText", "")
        self.refused("class x[t] [t]", "NoText", "[t]")
        self.refused("class x [t]", "NoText", "[t]")
        self.refused("class x  int", "NoText", " int")
        self.refused("class x int ", "NoText", "int ")
        self.refused("alias x = ", "NoText", "")
        self.refused("alias x =  int", "NoText", " int")
        self.refused("alias x = int = int", "NoText", "int = int")
        self.refused("base num ", "NoText", "")
        self.refused("base num  box[n]", "NoText", " box[n]")
        self.refused("body some ", "NoText", "")
        self.refused("body some  int", "NoText", " int")


class Questions(Checks):

    def test_show(self):
        self.answers("show int", "int")
        self.answers("show some[bool]", "bool | int")
        self.answers("show box[some[some[t]]]", "box[t | int]")
        self.answers("show call[[int, **p], some[bool]]", "(int, **p) -> (bool | int)")
        self.answers("show tab[int, *ts, bool...]", "tab[int, *ts, bool...]")
        self.refused("show ", "NoText", "")
        self.refused("show  int", "NoText", " int")
        self.refused("show int ", "NoText", "int ")
        self.refused("show none", "NoText", "none")
        self.refused("show *ts", "NoText", "*ts")
        self.refused("show [int]", "NoText", "[int]")
        large = "some[" * 80 + "int" + "]" * 80
        self.refused("show " + large, "TooLarge", 150)

    def test_give(self):
        self.answers("give int", "int")
        self.answers("give box[t] ; int", "box[int]")
        self.answers("give tab[t, *ts] ; int ; bool... ; *ts", "tab[int, bool..., *ts]")
        self.answers("give tab[t, *ts] ; int", "tab[int]")
        self.answers("give task[[**p], t] ; [int, ...] ; int | bool", "task[[int, ...], int | bool]")
        self.answers("give some[t] ; some[int]", "some[some[int]]")
        self.answers("give t | int ; int", "int")
        self.answers("give (**p) -> t ; [] ; () -> int", "() -> () -> int")
        self.refused("give tab[t, *ts]", "WrongCount", 0, 1)
        self.refused("give box[t] ; int ; int", "WrongCount", 2, 1)
        self.refused("give box[t] ; *ts", "NoArgument", 0, "kind")
        self.refused("give num[n] ; box[int]", "NoArgument", 0, "bound")
        self.refused("give tab[t, *ts] ; int ; []", "NoArgument", 1, "kind")
        self.refused("give tab[t, t] ; " + "box[" * 80 + "int" + "]" * 80, "TooLarge", 150)
        self.refused("give ", "NoText", "")
        self.refused("give  ; int", "NoText", "")
        self.refused("give ; int", "NoText", "; int")
        self.refused("give none ; none", "NoText", "none")
        self.refused("give box[t] ; ", "NoText", "")
        self.refused("give box[t] ;", "NoText", "box[t] ;")
        self.refused("give box[t] ; int ; ", "NoText", "")
        self.refused("give box[t] ;  int", "NoText", " int")
        self.refused("give box[t]  ; int", "NoText", "box[t] ")
        self.refused("give box[t]; int", "NoText", "box[t]; int")
        self.refused("give box[t] ;int", "NoText", "box[t] ;int")
        self.refused("give box[t] ; int ; none ; other", "NoText", "none")
        self.refused("give box[t] ; [*ts", "NoText", "[*ts")

    def test_same(self):
        self.answers("same int == int", "yes")
        self.answers("same int == bool", "no")
        self.answers("same some[bool] == int | bool", "yes")
        self.answers("same call[[**p], t] == (**p) -> t", "yes")
        self.answers("same box[some[int]] == box[int]", "yes")
        self.answers("same t == n", "no")
        self.refused("same int == int == int", "NoText", "int == int")
        self.refused("same  == int", "NoText", "")
        self.refused("same int == ", "NoText", "")
        self.refused("same  == ", "NoText", "")
        self.refused("same none == other", "NoText", "none")
        self.refused("same int == other", "NoText", "other")
        self.refused("same int  == int", "NoText", "int ")
        self.refused("same int ==  int", "NoText", " int")
        self.refused("same some[" + "some[" * 80 + "int" + "]" * 81 + " == none", "NoText", "none")
        self.refused("same some[" + "some[" * 80 + "int" + "]" * 81 + " == int", "TooLarge", 150)
        for command in ["same", "same ", "same int", "same int = int", "same int==int", "same int ==int", "same int== int", "same == int", "same int ==",
                        "same ==", "same == "]:
            self.refused(command, *NO)

    def test_alike(self):
        self.answers("alike some some", "alike")
        desk = desk_with("alias other[t] = int | t", "alias less[t] = t", "alias flat = int", "alias sole = bool")
        self.answers("alike some other", "alike", desk)
        self.answers("alike some less", "parted by bool", desk)
        self.answers("alike flat sole", "parted", desk)
        self.answers("alike flat flat", "alike", desk)
        self.refused("alike some call", "OtherShape", "some", "call")
        self.refused("alike some none", "NoName", "none")
        self.refused("alike int some", "NoName", "int")
        for command in ["alike", "alike ", "alike some", "alike some ", "alike some  some", "alike some some ", "alike  some some", "alike some some some",
                        "alike Some some", "alike some some[t]", "alike some ; some", "alike someone some"]:
            self.refused(command, *NO)

    def test_rows_that_part(self):
        desk = desk_with("alias a[ts] = tab[int, *ts]", "alias b[ts] = tab[int, *ts, *ts]", "alias c[ts] = tab[bool, *ts]", "alias d[p] = task[[**p], int]",
                         "alias e[p] = task[[], int]", "alias f[p] = task[[int, **p], int]")
        self.answers("alike a b", "parted by [*int]", desk)
        self.answers("alike a c", "parted by [*]", desk)
        self.answers("alike d e", "parted by [int]", desk)
        self.answers("alike d f", "parted by []", desk)
        desk = desk_with("alias a[t, ts, p] = (*ts, **p) -> t", "alias b[t, ts, p] = (**p) -> tab[t, *ts]", "plain u", "alias c[t, u] = tab[t, u]",
                         "alias d[t, u] = tab[u, t]")
        self.answers("alike a b", "parted by int ; [*] ; []", desk)
        self.answers("alike c d", "parted by int ; bool", desk)
        desk = Desk()
        for command in ["class a", "plain t", "variadic ts", "class x[ts, t]", "alias s = a | (() -> a) | (() -> () -> a) | ((a) -> a) | ((...) -> a)",
                        "alias b[ts, t] = x[*ts, s | t]", "alias c[ts, t] = x[*ts, s]", "alias d[ts, t] = x[a] | x[a, a] | x[a..., a] | x[*ts, a]",
                        "alias e[ts, t] = x[a] | x[a, a] | x[a..., a]"]:
            desk.say(command)
        told = desk.say("alike b c")
        self.assertTrue(told.startswith("parted by [*] ; "), told)
        told = desk.say("alike d e")
        self.assertEqual(told, "parted by [*x[a]] ; a")

    def test_unions_and_items_in_rows(self):
        desk = Desk()
        for command in ["class a", "class b", "plain k a b", "class w[k]", "alias c[k] = w[k] | w[a] | w[b]", "alias d[k] = w[a] | w[b]"]:
            desk.say(command)
        self.answers("alike c d", "parted by a | b", desk)


class Commands(Checks):

    def test_values_that_are_no_commands(self):
        for value in JUNK + [wrapped(300), wrapped(310, "undo", tuple), deep(10), {}, b"undo", ["undo"], ("undo",), 10 ** 39]:
            self.refused(value, *NO)

    def test_words(self):
        for word in ["plain", "variadic", "signature", "class", "alias", "bound", "base", "body", "drop", "show", "give", "alike", "same"]:
            self.refused(word, *NO)
            for command in [word + "x x", word[:-1] + " x", word.upper() + " x", " " + word + " x", word + "\nx", word + "  ", word + "[x] y"]:
                if not command.startswith(("show ", "give ")):
                    self.refused(command, *NO)
        for command in ["", " ", "undo ", " undo", "undo undo", "undo x", "Undo", "und", "undoo", "undo\n", "help", "say undo", "registry", "int", "; undo"]:
            self.refused(command, *NO)

    def test_names(self):
        for name in ["", "X", "abcdefg", "a1", "a-b", "[", "]", "t[", "t[]", "t,", "a_b", "t\n", "*t", "="]:
            for command in ["plain {}", "variadic {}", "signature {}", "class {}", "alias {} = int", "bound {}", "base {}", "body {} int", "drop {}", "plain u {}",
                            "bound t {}", "plain u int {}", "bound t int {}", "class x[{}]", "class x[t, {}]", "alias x[{}] = int", "alike {} some",
                            "alike some {}", "class {}[t]", "class {} int", "base {} int"]:
                self.refused(command.format(name), *NO)

    def test_spaces_and_signs(self):
        for command in [
                "plain  u", "plain u ", "plain u  int", "plain u int ", "plain u, int", "variadic us int", "variadic us ", "signature q q", "signature  q",
                "class  x", "class x[t", "class xt]", "class x[t]]", "class x[[t]]", "class x[t]y", "class x[t][t]", "class x[t,ts]", "class x[t,  ts]",
                "class x[t, ]", "class x[, t]", "class x[t ,ts]", "class x[ t]", "class x[t ]", "class x[]", "class x]t[", "class x[t](int)", "class x=int",
                "class x[t, ts", "class [t]", "class x(t)", "alias x", "alias x ", "alias x =", "alias x= int", "alias x =int", "alias x=int", "alias x int",
                "alias x  = int", "alias x == int", "alias x[t]= int", "alias x[t] =int", "alias x[t] int", "alias x[] = int", "alias x[t = int", "alias  x = int",
                "alias = int", "alias  = int", "bound", "bound ", "bound  t", "bound t ", "bound t  int", "bound t int ", "base", "base ", "base  num", "body",
                "body ", "body some", "body  some int", "drop", "drop ", "drop some ", "drop  some", "drop some some", "show", "give", "give\n", "show\nint"]:
            self.refused(command, *NO)

    def test_any_texts(self):
        for text in ["\n", "[", "(" * 2000, "int" * 600, "\\", "'", '"', "int\n", "->", " == ", " = "]:
            self.refused("show " + text, "NoText", text)
            self.refused("give " + text, "NoText", text)
            self.refused("body some " + text, "NoText", text)
            self.refused("base num " + text, "NoText", text)
            self.refused("alias x = " + text, "NoText", text)
            self.refused("class x " + text, "NoText", text)
        self.refused("same [ == ]", "NoText", "[")
        self.refused("give int ; (", "NoText", "(")

    def test_by_name_and_apart(self):
        self.assertEqual(self.desk.say(command="show int"), "int")
        other = Desk()
        self.assertEqual(told_by(other.say, "show int"), ("NoText", "int"))
        self.assertEqual(told_by(other.say, "undo"), ("NothingToUndo",))
        self.assertIs(self.desk == desk_with(), False)
        self.check_state()

    def test_letters_left_out_doubled_or_exchanged(self):
        """Of all commands that are nearly one, those that are none change nothing."""
        for command in ["plain u int", "class x[t, ts] tab[t, *ts]", "alias x[t] = box[t]", "bound n bool", "give box[t] ; int", "same int == t", "undo"]:
            for at in range(len(command)):
                for changed in [command[:at] + command[at + 1:], command[:at] + command[at] + command[at:],
                                command[:at] + command[at + 1:at + 2] + command[at] + command[at + 2:], command[:at] + "X" + command[at + 1:]]:
                    desk = desk_with()
                    before = desk._registry.book
                    told = told_by(desk.say, changed)
                    if told[0] == "returned":
                        self.assertIsInstance(told[1], str)
                    else:
                        self.assertIn(told[0], ["NoCommand", "NoText", "NoBook", "NoName", "NoChange", "WrongCount", "NoArgument"], changed)
                        self.assertEqual(desk._registry.book, before)
                        self.assertEqual(len(desk._registry), len(START))
