"""Whether any values are arguments and values that parameters take."""

from aliasparams.errors import NoArgument, NoName
from aliasparams.forms import ARGUMENTS, TERMS, VALUES, layout_of
from aliasparams.heads import keeps_bound
from aliasparams.misfits import first_misfit, kind_of_value
from aliasparams.names import is_name


def check_argument(facts, position, value, entry):
    """Raises NoArgument if any value is no argument for the parameter of an entry."""
    # The item ("...", term) of a term of 150 nodes is larger than a layout may
    # be, but it is an item: it is the row of it that is too large.
    layout = layout_of(value[1], TERMS) if _is_many(value) else layout_of(value, ARGUMENTS)
    if layout is None:
        raise NoArgument(position, "form")
    if not _is_taken(value, entry[2]):
        raise NoArgument(position, "kind")
    _check_fitting(facts, position, layout, entry)


def check_mapping(facts, mapping):
    """Raises NoName for the first key that is not the name of a parameter, then
    NoArgument for the first name whose value does not suit it."""
    for name in mapping:
        if not is_parameter(facts, name):
            raise NoName(name)
    for name, value in mapping.items():
        entry = facts.by_name[name]
        layout = layout_of(value, VALUES)
        if layout is None:
            raise NoArgument(name, "form")
        if kind_of_value(value) != entry[2]:
            raise NoArgument(name, "kind")
        _check_fitting(facts, name, layout, entry)


def is_parameter(facts, value):
    """Whether any value is the name of a parameter."""
    return is_name(value) and value in facts.by_name and facts.by_name[value][0] == "parameter"


def _check_fitting(facts, position, layout, entry):
    if first_misfit(facts, layout) is not None:
        raise NoArgument(position, "misfit")
    if entry[3] is not None and not keeps_bound(facts, layout, entry[3]):
        raise NoArgument(position, "bound")


def _is_many(value):
    return isinstance(value, tuple) and len(value) == 2 and value[0] == "..."


def _is_taken(argument, kind):
    """Whether a parameter of this kind takes an argument: a term, an item or inputs."""
    if kind == "variadic":
        return argument[0] != "()"
    if kind == "signature":
        return argument[0] == "()"
    return argument[0] not in ("()", "*", "...")
