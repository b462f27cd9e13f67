"""The bases of uses of classes."""

from aliasparams.replacing import replaced


def bases_of(facts, use):
    """The list of the base of a use of a class, the base of this base, and so
    on, each with the values substituted. Raises TooLarge."""
    found = []
    base = _base_of(facts, use)
    while base is not None:
        found.append(base)
        base = _base_of(facts, base)
    return found


def _base_of(facts, use):
    entry = facts.by_name[use[0]]
    if entry[3] is None:
        return None
    return replaced(entry[3], dict(zip(entry[2], use[1])))
