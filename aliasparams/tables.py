"""Tables of entries, and the names whose tables a change of a book touches."""

from aliasparams.climbing import bases_of
from aliasparams.parts import folded, laid_out
from aliasparams.spelling import lettered


def table_of(facts, name):
    """The table of the entry with this name."""
    kind, _, inner, last = facts.by_name[name]
    if kind == "parameter":
        return (inner, last)
    if kind == "alias":
        return (_parameter_table(facts, name), _expanded_body(facts, name))
    return (_parameter_table(facts, name), _climb(facts, last))


def touched_names(before, after):
    """The ascending list of the names that have another table than before, or one
    only before or after."""
    names = list({**before.by_name, **after.by_name})
    return sorted([name for name in names if _written_table(before, name) != _written_table(after, name)])


def letters_of(part):
    """A string that is the same exactly for parts that are written alike."""
    return folded(laid_out(part), lettered)


def _parameter_table(facts, name):
    return tuple([entry[1:] for entry in facts.takes[name]])


def _expanded_body(facts, name):
    return facts.bodies[name][1][0][0]


def _climb(facts, base):
    return () if base is None else (base, *bases_of(facts, base))


def _written_table(facts, name):
    """A table with its terms as strings, None without an entry. Terms may be nested
    deeper than Python can compare them."""
    if name not in facts.by_name:
        return None
    one, other = table_of(facts, name)
    if name in facts.bodies:
        return (one, letters_of(other))
    if name in facts.takes:
        return (one, tuple([letters_of(term) for term in other]))
    return (one, other)
