"""The parts of terms, and ways through them.

A part is a term, a row, inputs or an item, as DOC.md writes them, or a tail.
A tail is written ("**", tail) here, so that each part is a tuple and its
first item tells what it is.

The layout of a part is a pair of lists: all parts in it, each one behind the
one that it stands in, and where the parts directly in each one begin in the
first list; they end where those in the next one begin.

Nothing here calls itself: a term may be nested deeper than Python allows
calls to be.
"""

# The first items of parts that do not hold all their parts in a tuple.
_OTHERS = {"*": True, "**": True, "->": True, "...": True, "()": True}


def parts_of(part):
    """The tuple of the parts directly in a part, in the order of the text."""
    head = part[0]
    if head not in _OTHERS:
        return part[1]
    if head == "()":
        return part[1] if part[2] is None else (*part[1], ("**", part[2]))
    return () if head in ("*", "**") else part[1:]


def all_parts(top):
    """The list of all parts of a part, itself first, in the order of the text."""
    found = []
    waiting = [top]
    while waiting:
        part = waiting.pop()
        found.append(part)
        waiting.extend(parts_of(part)[::-1])
    return found


def laid_out(top):
    """The layout of a part."""
    parts = [top]
    starts = [1]
    while len(starts) <= len(parts):
        parts.extend(parts_of(parts[len(starts) - 1]))
        starts.append(len(parts))
    return parts, starts


def folded(layout, finish):
    """What finish makes of a part that is laid out.

    finish(part, results) is called for each part, the inner ones first, with
    the list of its results for the parts directly in this one.
    """
    parts, starts = layout
    results = [None] * len(parts)
    for at in reversed(range(len(parts))):
        results[at] = finish(parts[at], results[starts[at]:starts[at + 1]])
    return results[0]


def is_node(part):
    """Whether a part is counted: all are but rows and inputs."""
    return part[0] not in ("[]", "()")


def is_term_part(part):
    """Whether a part is a term: not a row, inputs, another item or a tail."""
    return part[0] not in ("[]", "()", "*", "**", "...")


def name_in(part):
    """The name of a use, of an item ("*", name) or of a tail, otherwise None."""
    head = part[0]
    if head in ("*", "**"):
        return None if part[1] == "..." else part[1]
    return None if head in ("->", "|", "[]", "()", "...") else head
