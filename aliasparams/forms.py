"""Whether any value has the form of a term, a row, inputs or an item."""

from aliasparams.names import is_name
from aliasparams.numbering import has_equal_members
from aliasparams.parts import is_node

LIMIT = 150

# The form of a use is "use", that of any other part its first item.
TERMS = ("use", "->", "|")
VALUES = ("use", "->", "|", "[]", "()")
ARGUMENTS = ("use", "->", "|", "*", "...", "()")
_MEMBERS = ("use", "->")
_ITEMS = ("use", "->", "|", "*", "...")
_INPUTS = ("()",)
_TAILS = ("**",)
_LENGTHS = {"->": 3, "|": 2, "[]": 2, "()": 3, "*": 2, "**": 2, "...": 2}


def layout_of(value, forms):
    """The layout of any value that is a part of one of these forms, with at most
    150 nodes; None for any other value."""
    parts = [value]
    starts = [1]
    allowed = [forms]
    nodes = 0
    has_union = False
    while len(starts) <= len(parts):
        part = parts[len(starts) - 1]
        form = _form_of(part)
        if form not in allowed[len(starts) - 1]:
            return None
        if form == "use":
            inner = part[1]
            inside = [VALUES] * len(inner)
        else:
            inner, inside = _inside(form, part)
            has_union = has_union or form == "|"
        nodes += 1 if is_node(part) else 0
        # A value in which parts are shared may be far larger than it looks.
        if inner is None or nodes > LIMIT:
            return None
        parts.extend(inner)
        allowed.extend(inside)
        starts.append(len(parts))
    return None if has_union and has_equal_members((parts, starts)) else (parts, starts)


def has_form(value, forms):
    """Whether any value is a part of one of these forms, with at most 150 nodes."""
    return layout_of(value, forms) is not None


def _form_of(part):
    """The form that the first item, the length and the second item of any value
    tell, or None."""
    if not isinstance(part, tuple) or len(part) < 2 or not isinstance(part[0], str):
        return None
    if part[0] in _LENGTHS:
        return part[0] if len(part) == _LENGTHS[part[0]] else None
    return "use" if len(part) == 2 and isinstance(part[1], tuple) and is_name(part[0]) else None


def _inside(form, part):
    """The parts directly in a part that is no use, None if it has no such form,
    and of each one the forms that it may have."""
    if form == "->":
        return part[1:], (_INPUTS, TERMS)
    if form == "...":
        return part[1:], (TERMS,)
    if form == "**":
        return (), ()
    if form == "*":
        return () if is_name(part[1]) else None, ()
    items = part[1]
    if not isinstance(items, tuple) or len(items) > LIMIT:
        return None, ()
    if form == "|":
        return items if len(items) > 1 else None, [_MEMBERS] * len(items)
    if form == "()" and part[2] is not None:
        return _with_tail(items, part[2]), [*[_ITEMS] * len(items), _TAILS]
    return items, [_ITEMS] * len(items)


def _with_tail(items, tail):
    """The items and the tail of inputs, None if any value is no tail."""
    return (*items, ("**", tail)) if tail == "..." or is_name(tail) else None
