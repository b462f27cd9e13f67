"""Terms, values and books that several tests use, and short ways to write them."""

import random

from aliasparams.books import Book

I = ("int", ())
L = ("bool", ())
T = ("t", ())

ENTRIES = [
    ("class", "int", (), None),
    ("class", "bool", (), ("int", ())),
    ("parameter", "t", "plain", None),
    ("parameter", "ts", "variadic", None),
    ("parameter", "p", "signature", None),
    ("class", "box", ("t",), None),
    ("class", "tab", ("t", "ts"), None),
    ("class", "task", ("p", "t"), None),
]

# More of everything: bounds, parameters of classes with bounds, aliases.
WIDE = ENTRIES + [
    ("class", "str", (), None),
    ("parameter", "n", "plain", ("int",)),
    ("parameter", "m", "plain", ("bool",)),
    ("parameter", "w", "plain", ("int", "str")),
    ("class", "num", ("n",), None),
    ("class", "lone", (), ("box", (("int", ()),))),
    ("alias", "same", ("t",), ("t", ())),
    ("alias", "drop", ("t", "n"), ("n", ())),
    ("alias", "both", ("w", "t"), ("|", (("w", ()), ("bool", ()), ("same", (("t", ()),))))),
    ("alias", "call", ("p", "t"), ("->", ("()", (), "p"), ("t", ()))),
    ("alias", "last", ("ts", "n"), ("|", (("drop", (("box", (("int", ()),)), ("n", ()))), ("str", ())))),
]


def book():
    return Book(ENTRIES)


def wide():
    return Book(WIDE)


def use(name, *values):
    return (name, values)


def row(*items):
    return ("[]", items)


def inputs(*items, tail=None):
    return ("()", items, tail)


def arrow(given, result):
    return ("->", given, result)


def union(*members):
    return ("|", members)


def star(name):
    return ("*", name)


def many(term):
    return ("...", term)


def deep(nodes, inside=I):
    """A term in which so many uses hold the one inside, each in the next."""
    for _ in range(nodes):
        inside = use("box", inside)
    return inside


def deep_in_rows(nodes, inside=I):
    """The same with each one in a row: four tuples deep for each node."""
    for _ in range(nodes):
        inside = use("rows", row(inside))
    return inside


def wrapped(times, value=None, kind=list):
    """A value in so many lists or tuples."""
    for _ in range(times):
        value = kind([value])
    return value


# One term with every form in it.
FULL = use(
    "all",
    I,
    row(star("ts"), many(union(I, L)), T, arrow(inputs(), I)),
    row(),
    inputs(I, star("ts"), many(T), union(L, use("box", I)), tail="..."),
    inputs(tail="p"),
    arrow(inputs(use("tab", I, row(L))), union(arrow(inputs(tail="..."), I), T)),
    union(use("box", union(I, L)), use("box", union(I, T)), arrow(inputs(), L)),
)

JUNK = [
    None, True, False, 0, 1, -7, 10 ** 39, "", "int", "Int", "abcdefg", "a b", "a\n", "...", "|",
    "->", "[]", "()", "*", "**", [], (), [I], (I,), (None,), ("int",), ["int", ()], ("int", []),
    ("int", (), ()), ("int", None), ("Int", ()), ("", ()), ("|", ()), ("|", (I,)), ("|", (I, I)),
    ("|", (I, ("|", (L, T)))), ("|", [I, L]), ("|", (I, L), ()), ("->", inputs(), I, I),
    ("->", row(), I), ("->", I, I), ("->", inputs()), ("->", inputs(), inputs()), ("[]",), ("[]", None),
    ("[]", (row(),)), ("[]", (inputs(),)), ("[]", ["int"]), ("()", ()), ("()", (), "..", None),
    ("()", (), ".."), ("()", (), "Pp"), ("()", (), ()), ("()", None, None), ("*", "Ts"), ("*", ()),
    ("*",), ("*", "ts", ()), ("...",), ("...", "ts"), ("...", row()), ("...", many(I)),
    ("...", star("ts")), ("...", I, I), ("**", "p"), ("**", "..."), (1, ()), (None, ()), ((), ()),
    star("ts"), many(I), row(), row(I), inputs(), inputs(I, tail="p"), I, L, union(I, L),
    arrow(inputs(), I), deep(3), ("use", ()), ("use", (I,)),
]


def changed_everywhere(value):
    """The value with each of its parts replaced by junk, left out or doubled."""
    yield from JUNK
    if not isinstance(value, tuple):
        return
    yield list(value)
    for at, inner in enumerate(value):
        yield value[:at] + value[at + 1:]
        yield value[:at] + (inner, inner) + value[at + 1:]
        for other in changed_everywhere(inner):
            yield value[:at] + (other,) + value[at + 1:]


class Maker:
    """Terms made by a seed, always the same ones; not all of them fit."""

    def __init__(self, seed, plain, variadic, signature, uses):
        self.random = random.Random(seed)
        self.plain = plain
        self.variadic = variadic
        self.signature = signature
        self.uses = uses

    def term(self, depth):
        many_ways = self.random.random()
        if depth == 0 or many_ways < 0.2:
            return use(self.random.choice(self.plain))
        if many_ways < 0.35:
            return arrow(self.inputs(depth - 1), self.term(depth - 1))
        if many_ways < 0.55:
            return self.union(depth - 1)
        name = self.random.choice(sorted(self.uses))
        return use(name, *[self.value(kind, depth - 1) for kind in self.uses[name]])

    def union(self, depth):
        found = []
        for _ in range(self.random.randint(2, 4)):
            term = self.term(depth)
            if term[0] != "|":
                found.append(term)
        return self.distinct(found)

    def distinct(self, terms):
        from tests.reference import canonical
        known = {canonical(term): term for term in terms}
        found = list(known.values())
        return ("|", tuple(found)) if len(found) > 1 else (found or [I])[0]

    def value(self, kind, depth):
        if self.random.random() < 0.03:
            kind = self.random.choice(["plain", "variadic", "signature"])
        if kind == "variadic":
            return row(*self.items(depth))
        return self.inputs(depth) if kind == "signature" else self.term(depth)

    def items(self, depth):
        return [self.item(depth) for _ in range(self.random.randint(0, 3))]

    def item(self, depth):
        many_ways = self.random.random()
        if many_ways < 0.2:
            return star(self.random.choice(self.variadic))
        return many(self.term(depth)) if many_ways < 0.4 else self.term(depth)

    def inputs(self, depth):
        tail = self.random.choice([None, None, "...", self.random.choice(self.signature)])
        return inputs(*self.items(depth), tail=tail)

    def shuffled(self, term):
        """An equal term: the members of its unions in any other order."""
        if not isinstance(term, tuple):
            return term
        found = tuple(self.shuffled(inner) for inner in term)
        if found and found[0] == "|":
            return ("|", tuple(self.random.sample(found[1], len(found[1]))))
        return found


def parameter(name, kind="plain", bound=None):
    return ("parameter", name, kind, bound)


def made_class(name, *parameters, base=None):
    return ("class", name, parameters, base)


def alias(name, parameters, body):
    return ("alias", name, tuple(parameters), body)


def table_of(entries):
    return {entry[1]: entry for entry in entries}


def uses_of(entries):
    """The kinds of the parameters of each class and alias, as Maker takes them."""
    table = table_of(entries)
    return {entry[1]: [table[name][2] for name in entry[2]] for entry in entries if entry[0] != "parameter"}


def told_by(function, *arguments, **named):
    """What a call returns, or the name and the fields of the error that it raises."""
    try:
        return "returned", function(*arguments, **named)
    except Exception as error:
        return type(error).__name__, *vars(error).values()
