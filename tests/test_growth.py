"""Promises 5, 7, 8 and 11 for terms of many nodes: how much work the answers take.

The work is counted in steps of Python's interpreter, so that it is the same on
each machine.
"""

import sys
import unittest

from aliasparams.books import Book
from aliasparams.bounds import heads, is_within
from aliasparams.errors import TooLarge
from aliasparams.expansion import expanded, full_size, same
from aliasparams.fits import misfit
from aliasparams.substitution import applied
from aliasparams.terms import equal, is_term, joined
from aliasparams.texts import read, show
from tests.samples import T, alias, arrow, inputs, made_class, many, parameter, row, star, union, use

A = use("a")
ENTRIES = [
    parameter("t"), made_class("a"), made_class("x", "t"), alias("d", ("t",), use("x", T)), parameter("n", "plain", ("a",)), alias("s", ("n",), use("n")),
    parameter("ts", "variadic"), made_class("r", "ts"), alias("o", ("t",), union(T, A)), alias("e", ("ts",), use("r", row(star("ts"), A)))]


def steps(function, *arguments):
    """How many steps of the interpreter a call takes, in files of the package."""
    found = 0

    def trace(frame, event, _):
        nonlocal found
        if "aliasparams" not in frame.f_code.co_filename:
            return None
        frame.f_trace_opcodes = True
        found += event == "opcode"
        return trace

    before = sys.gettrace()
    sys.settrace(trace)
    try:
        function(*arguments)
    except TooLarge:
        pass
    finally:
        sys.settrace(before)
    return found


def chain(times, around, inside=A):
    for _ in range(times):
        inside = around(inside)
    return inside


CHAINS = {
    "aliases": (lambda term: use("d", term), 149), "classes": (lambda term: use("x", term), 149), "bounds": (lambda term: use("s", term), 149),
    "rows": (lambda term: use("r", row(term)), 149), "items": (lambda term: use("r", row(many(term))), 74), "unions": (lambda term: use("x", union(term, T)), 48),
    "joined": (lambda term: use("o", term), 72), "signatures": (lambda term: arrow(inputs(term), A), 74), "gathered": (lambda term: use("e", row(term)), 72),
}


class Growth(unittest.TestCase):

    def setUp(self):
        self.book = Book(ENTRIES)
        self.calls = {
            "is_term": is_term, "misfit": lambda term: misfit(self.book, term), "full_size": lambda term: full_size(self.book, term),
            "expanded": lambda term: expanded(self.book, term), "same": lambda term: same(self.book, term, term),
            "read": lambda term: read(self.book, show(term)), "equal": lambda term: equal(term, term), "joined": lambda term: joined(term, A, term),
            "heads": lambda term: heads(self.book, term), "is_within": lambda term: is_within(self.book, term, ("a",)),
            "applied": lambda term: applied(self.book, term, [A] if "t" in show(term) else [])}

    def test_twice_as_many_nodes_take_twice_the_work(self):
        for name, (around, times) in CHAINS.items():
            small, large = chain(times // 2, around), chain(times, around)
            for call, function in self.calls.items():
                self.assertLess(steps(function, large), 2.2 * steps(function, small) + 100, (name, call))

    def test_misfits_far_inside(self):
        for around, inside, times in [(lambda term: use("s", term), use("x", A), 140), (lambda term: use("x", term), use("none"), 140)]:
            small, large = chain(times // 2, around, inside), chain(times, around, inside)
            for term, many_uses in [(small, times // 2), (large, times)]:
                self.assertIn(misfit(self.book, term), [(many_uses, "bound"), (many_uses, "unknown")])
            self.assertLess(steps(self.calls["misfit"], large), 2.2 * steps(self.calls["misfit"], small) + 100)

    def test_work_for_each_node(self):
        term = chain(149, lambda inside: use("d", inside))
        # About half, a third or a tenth of what a walk anew for each question took.
        for call, most in [("is_term", 165), ("misfit", 255), ("full_size", 305), ("expanded", 700), ("same", 1400), ("read", 760)]:
            self.assertLess(steps(self.calls[call], term) / 150, most, call)

    def test_parameters_that_stand_twice(self):
        for body in [use("y", T, T), use("r", row(T, T)), union(use("x", T), T), arrow(inputs(T), T)]:
            given = Book([*ENTRIES[:3], *ENTRIES[6:8], parameter("u"), made_class("y", "t", "u"), alias("d", ("t",), body)])
            done = 0
            for uses in range(1, 41):
                term = chain(uses, lambda inside: use("d", inside))
                done += steps(full_size, given, term) + steps(expanded, given, term) + steps(same, given, term, term)
            self.assertLess(done / (4 * 40 * 41 / 2), 340)
