"""Parameters of terms substituted by values, and values matched and solved for."""

from aliasparams.matching import matched_row
from aliasparams.misfits import check_term, parameters_of
from aliasparams.replacing import replaced
from aliasparams.solving import is_solvable_term, solution_of
from aliasparams.suiting import check_mapping


def matched(book, names, row):
    """The dict from names of parameters to the values that a row gives them.

    Raises WrongCount, NoArgument, TooLarge.
    """
    return matched_row(book.facts, names, row)


def substituted(book, term, mapping):
    """The term, its parameters substituted by the mapping.

    Raises NoTerm, NoName, NoArgument, TooLarge.
    """
    check_term(book.facts, term)
    check_mapping(book.facts, mapping)
    return replaced(term, mapping)


def filled(book, term, **values):
    """The term, its parameters substituted by the values with their names."""
    return substituted(book, term, values)


def applied(book, term, row):
    """The term, its parameters substituted by the values that a row gives them.

    Raises NoTerm, WrongCount, NoArgument, TooLarge.
    """
    check_term(book.facts, term)
    names = parameters_of(book.facts, term)
    return replaced(term, matched_row(book.facts, names, row))


def is_solvable(book, term):
    """Whether a term has at most one solution for each result. Raises NoTerm."""
    check_term(book.facts, term)
    return is_solvable_term(book.facts, term)


def solved(book, term, result):
    """The solution of a solvable term for a result, None if there is none.

    Raises NoTerm.
    """
    check_term(book.facts, term)
    check_term(book.facts, result)
    return solution_of(book.facts, term, result)


def composed(book, first, second):
    """The mapping that does the same as the first one and then the second one.

    Raises NoName, NoArgument, TooLarge.
    """
    check_mapping(book.facts, first)
    check_mapping(book.facts, second)
    found = {name: replaced(value, second) for name, value in first.items()}
    return {**second, **found}
