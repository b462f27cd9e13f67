"""The heads of terms, and whether they keep a bound."""


def heads_of(facts, term):
    """The ascending list of the heads of a fitting term.

    Aliases are not expanded for this: the heads of a body are known, and of
    the values only those of the parameters among these heads matter.
    """
    found = {}
    waiting = [term]
    while waiting:
        part = waiting.pop()
        head = part[0]
        if head == "|":
            waiting.extend(part[1])
        elif head in facts.body_heads:
            names = facts.by_name[head][2]
            for inner in facts.body_heads[head]:
                if inner in names:
                    waiting.append(part[1][names.index(inner)])
                else:
                    found[inner] = True
        else:
            found[head] = True
    return sorted(list(found))


def keeps_bound(facts, term, bound):
    """Whether a fitting term is within a bound."""
    return all([_is_head_within(facts, head, bound) for head in heads_of(facts, term)])


def classes_of_head(facts, head):
    """The core classes that a head stands for: itself, or those of the bound of a
    parameter; None if the head keeps no bound."""
    if head in facts.lines:
        return (head,)
    entry = facts.by_name.get(head)
    return entry[3] if entry is not None and entry[0] == "parameter" else None


def _is_head_within(facts, head, bound):
    classes = classes_of_head(facts, head)
    return classes is not None and all([is_class_within(facts, name, bound) for name in classes])


def is_class_within(facts, name, bound):
    """Whether a core class is in a bound or has a class of it above it."""
    return any([above in bound for above in facts.lines[name]])
