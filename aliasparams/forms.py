"""Whether any value has the form of a term, a row, inputs or an item."""

from aliasparams.names import is_name
from aliasparams.parts import folded, is_node
from aliasparams.spelling import spelled

LIMIT = 150

# The form of a use is "use", that of any other part its first item.
TERMS = ("use", "->", "|")
_INPUTS = ("()",)
_LENGTHS = {"use": 2, "->": 3, "|": 2, "[]": 2, "()": 3, "*": 2, "...": 2}

# The forms that the parts directly in a part of each form may have.
_INSIDE = {
    "use": ("use", "->", "|", "[]", "()"),
    "|": ("use", "->"),
    "[]": ("use", "->", "|", "*", "..."),
    "()": ("use", "->", "|", "*", "..."),
}


def has_form(value, forms):
    """Whether any value is a part of one of these forms, with at most 150 nodes."""
    nodes = 0
    waiting = [(value, forms)]
    while waiting:
        part, allowed = waiting.pop()
        form = _form_of(part)
        if form not in allowed or not _holds_together(form, part):
            return False
        nodes += _own_nodes(part)
        # A value in which parts are shared may be far larger than it looks.
        if nodes > LIMIT:
            return False
        waiting.extend(_inside(form, part))
    return folded(value, _checked_key) != ""


def _form_of(part):
    """The form that the first item and the length of any value tell, or None."""
    if not isinstance(part, tuple) or not part or not isinstance(part[0], str):
        return None
    form = "use" if is_name(part[0]) else part[0]
    return form if len(part) == _LENGTHS.get(form, 0) else None


def _holds_together(form, part):
    """Whether a part is right apart from the parts in it."""
    if form == "*":
        return is_name(part[1])
    # In each other form a tuple of parts, or a part, which is a tuple too.
    if not isinstance(part[1], tuple):
        return False
    if form == "|":
        return len(part[1]) > 1
    return form != "()" or _is_tail(part[2])


def _is_tail(value):
    return value is None or value == "..." or is_name(value)


def _own_nodes(part):
    """How many nodes a part has apart from its terms and items."""
    if part[0] == "()":
        return 0 if part[2] is None else 1
    return 1 if is_node(part) else 0


def _inside(form, part):
    """The values directly in a part, each with the forms that it may have."""
    if form == "*":
        return []
    if form == "->":
        return [(part[1], _INPUTS), (part[2], TERMS)]
    if form == "...":
        return [(part[1], TERMS)]
    return [(value, _INSIDE[form]) for value in part[1]]


def _checked_key(part, keys):
    """The key of a part, or the empty string if a union in it has equal members."""
    if "" in keys or part[0] == "|" and len(set(keys)) < len(keys):
        return ""
    return spelled(part, keys)
