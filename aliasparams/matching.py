"""Rows of arguments matched to parameters."""

from aliasparams.errors import TooLarge, WrongCount
from aliasparams.forms import LIMIT
from aliasparams.suiting import check_argument
from aliasparams.terms import size


def matched_row(facts, names, row):
    """The dict from names of parameters to the values that a row of any values
    gives them. Raises WrongCount, NoArgument, TooLarge."""
    entries = [facts.by_name[name] for name in names]
    places = _places([entry[2] for entry in entries], len(row))
    for position, argument in enumerate(row):
        check_argument(facts, position, argument, entries[places[position]])
    found = {}
    for place, name in enumerate(names):
        given = [argument for argument, owner in zip(row, places) if owner == place]
        found[name] = ("[]", tuple(given)) if entries[place][2] == "variadic" else given[0]
    for value in found.values():
        if size(value) > LIMIT:
            raise TooLarge(LIMIT)
    return found


def _places(kinds, given):
    """Of each of so many arguments the place of the parameter that takes it, by
    the kinds of the parameters. Raises WrongCount."""
    if "variadic" not in kinds:
        if given != len(kinds):
            raise WrongCount(given, len(kinds))
        return list(range(given))
    # Only the first variadic parameter takes what the others leave.
    first = kinds.index("variadic")
    more = given - (len(kinds) - 1)
    if more < 0:
        raise WrongCount(given, len(kinds) - 1)
    return list(range(first)) + [first] * more + list(range(first + 1, len(kinds)))
