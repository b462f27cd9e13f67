"""The heads of terms, and whether they keep a bound."""

from aliasparams.parts import folded


def heads_of(facts, layout):
    """The ascending list of the heads of a fitting term that is laid out."""
    found = folded(layout, lambda part, inner: heads_from(facts, part, inner))
    return sorted(list(found))


def heads_from(facts, part, inner):
    """The tuple of the heads of a term, from those of the parts directly in it.

    Aliases are not expanded for this: the heads of a body are known, and of
    the values only those of the parameters among these heads matter.
    """
    head = part[0]
    if head == "|":
        return tuple({name: True for names in inner for name in names})
    if head not in facts.body_heads:
        return (head,)
    parameters = facts.by_name[head][2]
    found = {}
    for name in facts.body_heads[head]:
        for other in inner[parameters.index(name)] if name in parameters else (name,):
            found[other] = True
    return tuple(found)


def keeps_bound(facts, layout, bound):
    """Whether a fitting term that is laid out is within a bound."""
    return are_within(facts, heads_of(facts, layout), bound)


def are_within(facts, heads, bound):
    """Whether all heads of a term keep a bound."""
    return all([_is_head_within(facts, head, bound) for head in heads])


def classes_of_head(facts, head):
    """The core classes that a head stands for: itself, or those of the bound of a
    parameter; None if the head keeps no bound."""
    if head in facts.lines:
        return (head,)
    entry = facts.by_name.get(head)
    return entry[3] if entry is not None and entry[0] == "parameter" else None


def _is_head_within(facts, head, bound):
    classes = classes_of_head(facts, head)
    return classes is not None and all([is_class_within(facts, name, bound) for name in classes])


def is_class_within(facts, name, bound):
    """Whether a core class is in a bound or has a class of it above it."""
    return any([above in bound for above in facts.lines[name]])
