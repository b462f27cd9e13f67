"""Numbers for parts, the same exactly for equal ones.

The numbers are given by a dict, from the first item of a part and the numbers
of the parts directly in it. Only parts that one dict numbers can be compared.
"""


def numbered(numbers, layout):
    """The list of the numbers of all parts of a layout."""
    parts, starts = layout
    found = [0] * len(parts)
    for at in reversed(range(len(parts))):
        part = parts[at]
        if part[0] in ("*", "**"):
            letters = part
        elif part[0] == "|":
            letters = ("|", *sorted(found[starts[at]:starts[at + 1]]))
        else:
            letters = (part[0], *found[starts[at]:starts[at + 1]])
        found[at] = numbers.setdefault(letters, len(numbers))
    return found


def has_equal_members(layout):
    """Whether a union among the parts of a layout has two equal members."""
    parts, starts = layout
    unions = [at for at, part in enumerate(parts) if part[0] == "|"]
    if not unions:
        return False
    found = numbered({}, layout)
    for at in unions:
        members = found[starts[at]:starts[at + 1]]
        if len(set(members)) < len(members):
            return True
    return False
