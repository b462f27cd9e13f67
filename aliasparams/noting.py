"""Parts made anew with parameters and aliases replaced, and numbered on the way.

A note of a part is a tuple of the part, its number (see numbering), and the
tuple of the numbers of its members if it is a union, of its items if it is a
row or inputs, otherwise of itself alone. The number of what takes the place of
an item ("*", name) or of a tail is None: it is a row or inputs whose items and
tail are put into the part around it.

Mappings lead from names of parameters to notes of their values.
"""


def noted(numbers, layout, mapping):
    """The note of a part that is laid out, its parameters substituted."""
    parts, starts = layout
    notes = [None] * len(parts)
    for at in reversed(range(len(parts))):
        notes[at] = _noted_part(numbers, parts[at], notes[starts[at]:starts[at + 1]], mapping)
    return notes[0]


def noted_expansion(numbers, bodies, layout):
    """The note of a term that is laid out, its aliases expanded.

    Bodies hold for each alias its parameters and its expanded body, laid out.
    """
    parts, starts = layout
    notes = [None] * len(parts)
    for at in reversed(range(len(parts))):
        inner = notes[starts[at]:starts[at + 1]]
        if parts[at][0] in bodies:
            names, body = bodies[parts[at][0]]
            notes[at] = noted(numbers, body, dict(zip(names, inner)))
        else:
            notes[at] = _noted_part(numbers, parts[at], inner, {})
    return notes[0]


def joined_notes(numbers, notes):
    """The note of the joined terms of some notes."""
    members = {}
    for part, _, inner in notes:
        for member, number in zip(part[1] if part[0] == "|" else (part,), inner):
            members.setdefault(number, member)
    inner = tuple(members)
    if len(inner) == 1:
        return members[inner[0]], inner[0], inner
    letters = ("|", *sorted(inner))
    return ("|", tuple(members.values())), numbers.setdefault(letters, len(numbers)), inner


def _noted_part(numbers, part, inner, mapping):
    """The note of a part from those of the parts directly in it."""
    head = part[0]
    if head in mapping:
        return mapping[head]
    if head in _MAKERS:
        maker = _MAKERS[head]
        return maker(numbers, part, inner, mapping)
    letters = (head, *[note[1] for note in inner])
    number = numbers.setdefault(letters, len(numbers))
    return (head, tuple([note[0] for note in inner])), number, (number,)


def _of_parts(numbers, part, inner, mapping):
    """The note of a signature, or of an item ("...", term)."""
    letters = (part[0], *[note[1] for note in inner])
    number = numbers.setdefault(letters, len(numbers))
    return (part[0], *[note[0] for note in inner]), number, (number,)


def _of_members(numbers, part, inner, mapping):
    return joined_notes(numbers, inner)


def _opened(numbers, part, inner, mapping):
    """The note of what takes the place of an item ("*", name) or of a tail."""
    head, name = part
    if name in mapping:
        return mapping[name][0], None, mapping[name][2]
    if head == "*":
        return ("[]", (part,)), None, (numbers.setdefault(part, len(numbers)),)
    return ("()", (), name), None, ()


def _gathered(numbers, part, inner, mapping):
    """The note of a row or of inputs, with the items and the tail of some notes."""
    items = []
    found = []
    tail = None
    for own, number, those in inner:
        if number is not None:
            items.append(own)
            found.append(number)
        else:
            items.extend(own[1])
            found.extend(those)
            tail = own[2] if own[0] == "()" else None
    letters = (part[0], *found)
    if tail is not None:
        letters = (*letters, numbers.setdefault(("**", tail), len(numbers)))
    made = ("[]", tuple(items)) if part[0] == "[]" else ("()", tuple(items), tail)
    return made, numbers.setdefault(letters, len(numbers)), tuple(found)


# Of each part that is no use, by its first item, what makes its note.
_MAKERS = {
    "|": _of_members, "[]": _gathered, "()": _gathered, "*": _opened, "**": _opened, "->": _of_parts, "...": _of_parts,
}
