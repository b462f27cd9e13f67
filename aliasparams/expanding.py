"""Aliases replaced by their bodies."""

from aliasparams.errors import TooLarge
from aliasparams.forms import LIMIT
from aliasparams.parts import folded
from aliasparams.replacing import rebuilt, replaced
from aliasparams.sizes import largest_full_size


def expanded_term(facts, term):
    """A fitting term with its aliases expanded. Raises TooLarge."""
    if largest_full_size(facts.weights, term) > LIMIT:
        raise TooLarge(LIMIT)
    return folded(term, lambda part, results: _without_alias(facts, part, results))


def _without_alias(facts, part, results):
    """A part in which all uses of aliases are expanded, from those of its parts."""
    if part[0] not in facts.bodies:
        return rebuilt(part, results, {})
    # The bodies are expanded already: what one alias leaves out is not made
    # anew for another one, where it might be too large.
    names = facts.by_name[part[0]][2]
    return replaced(facts.bodies[part[0]], dict(zip(names, results)))
