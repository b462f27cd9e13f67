"""Aliases that are alike, and rows of closed values that part others."""

from aliasparams.closed import ClosedLists, values_of_size
from aliasparams.errors import NoName, OtherShape, TooLarge
from aliasparams.pairs import LARGEST_BODY, Pair, are_of_one_shape, check_alias, is_small
from aliasparams.searching import least_row
from aliasparams.suiting import is_parameter


def closed_values(book, name):
    """The closed values that suit a parameter, one after the other, in the order
    of their sizes. Raises NoName at the first one."""
    if not is_parameter(book.facts, name):
        raise NoName(name)
    lists = ClosedLists(book.facts)
    entry = book.facts.by_name[name]
    for size in range(lists.last_size(entry) + 1):
        lists.reach(size - 1)
        yield from values_of_size(lists, entry, size)


def parting(book, one, other):
    """A least row that parts two aliases, as a tuple; None if they are alike.

    Raises NoName, OtherShape, TooLarge.
    """
    if not have_same_shape(book, one, other):
        raise OtherShape(one, other)
    if not is_small(book.facts, one) or not is_small(book.facts, other):
        raise TooLarge(LARGEST_BODY)
    return least_row(Pair(book.facts, one, other))


def have_same_shape(book, one, other):
    """Whether two aliases have equally many parameters, of the same kinds at each
    place. Raises NoName."""
    check_alias(book.facts, one)
    check_alias(book.facts, other)
    return are_of_one_shape(book.facts, one, other)
