"""Whether any value is an entry that may stand behind others."""

from aliasparams.climbing import bases_of
from aliasparams.errors import TooLarge
from aliasparams.forms import LIMIT, TERMS, layout_of
from aliasparams.misfits import first_misfit, parameters_of
from aliasparams.names import is_name
from aliasparams.sizes import largest_full_size
from aliasparams.terms import size

_MOST_PARAMETERS = 3
_MOST_CORE_CLASSES = 4
_MOST_IN_BOUND = 4
_LARGEST_TERM = 20


def is_entry(facts, value):
    """Whether any value is an entry that may stand behind those of the facts."""
    if not isinstance(value, tuple) or len(value) != 4:
        return False
    kind, name, inner, last = value
    if not is_name(name) or name in facts.by_name:
        return False
    if kind == "parameter":
        return _is_kind_with_bound(facts, inner, last)
    if kind not in ("class", "alias") or not _are_parameters(facts, inner):
        return False
    return _is_base(facts, inner, last) if kind == "class" else _is_body(facts, inner, last)


def is_bound(facts, value):
    """Whether any value is an ascending tuple of one to four core classes."""
    if not isinstance(value, tuple) or not 1 <= len(value) <= _MOST_IN_BOUND:
        return False
    if not all([is_name(name) and name in facts.lines for name in value]):
        return False
    return all([one < other for one, other in zip(value, value[1:])])


def _is_kind_with_bound(facts, kind, bound):
    if bound is None:
        return kind in ("plain", "variadic", "signature")
    return kind == "plain" and is_bound(facts, bound)


def _are_parameters(facts, names):
    """Whether any value is a tuple that may be the parameters of an entry."""
    if not isinstance(names, tuple) or len(names) > _MOST_PARAMETERS:
        return False
    if not all([is_name(name) and name in facts.by_name for name in names]):
        return False
    entries = [facts.by_name[name] for name in names]
    if not all([entry[0] == "parameter" for entry in entries]):
        return False
    variadic = [entry for entry in entries if entry[2] == "variadic"]
    return len(set(names)) == len(names) and len(variadic) < 2


def _is_base(facts, parameters, base):
    """Whether any value may be the base of a class with these parameters."""
    if base is not None and not _is_use_with_bases(facts, parameters, base):
        return False
    is_core = facts.line_above(parameters, base) is not None
    return not is_core or len(facts.lines) < _MOST_CORE_CLASSES


def _is_use_with_bases(facts, parameters, value):
    """Whether any value is a use of a class that may be a base, with all above it."""
    if not _is_small_term(facts, parameters, layout_of(value, TERMS)):
        return False
    return _is_use_of_class(facts, value) and _has_small_bases(facts, value)


def _is_use_of_class(facts, term):
    return term[0] in facts.by_name and facts.by_name[term[0]][0] == "class"


def _has_small_bases(facts, base):
    try:
        bases_of(facts, base)
    except TooLarge:
        return False
    return True


def _is_body(facts, parameters, body):
    """Whether any value may be the body of an alias with these parameters."""
    layout = layout_of(body, TERMS)
    if not _is_small_term(facts, parameters, layout):
        return False
    return largest_full_size(facts.weights, layout) <= LIMIT


def _is_small_term(facts, parameters, layout):
    """Whether a layout, or None, is that of a fitting term of at most twenty
    nodes with no other parameters than these."""
    if layout is None or size(layout[0][0]) > _LARGEST_TERM or first_misfit(facts, layout) is not None:
        return False
    return all([name in parameters for name in parameters_of(facts, layout[0][0])])
