"""Whether papers show claims, without a look at how papers are made."""

from aliasparams.claims import check_claim
from aliasparams.closed import ClosedLists
from aliasparams.forms import VALUES, layout_of
from aliasparams.heads import classes_of_head, heads_of, is_class_within, keeps_bound
from aliasparams.misfits import first_misfit, kind_of_value, parameters_of
from aliasparams.numbering import numbered
from aliasparams.pairs import Pair
from aliasparams.parts import laid_out


def holds(book, claim, paper):
    """Whether any value is a paper of a claim. Raises NoClaim."""
    check_claim(book.facts, claim)
    kind, one, other = claim
    shows = _CHECKS[kind]
    return shows(book.facts, one, other, paper)


def _shows_within(facts, term, bound, paper):
    heads = heads_of(facts, laid_out(term))
    if not isinstance(paper, tuple) or len(paper) != len(heads):
        return False
    return all([_shows_head_within(facts, head, bound, part) for head, part in zip(heads, paper)])


def _shows_head_within(facts, head, bound, part):
    classes = classes_of_head(facts, head)
    if classes is None or not _is_pair(part) or part[0] != head:
        return False
    chains = part[1]
    if not isinstance(chains, tuple) or len(chains) != len(classes):
        return False
    return all([_is_chain(facts, name, chain) and chain[-1] in bound for name, chain in zip(classes, chains)])


def _is_chain(facts, name, value):
    """Whether any value is a tuple of a class and some of those above it, in order."""
    return isinstance(value, tuple) and len(value) > 0 and value == facts.lines[name][:len(value)]


def _shows_outside(facts, term, bound, paper):
    if not _is_pair(paper) or paper[0] not in heads_of(facts, laid_out(term)):
        return False
    head, chain = paper
    classes = classes_of_head(facts, head)
    if classes is None:
        return chain == ()
    return any([chain == facts.lines[name] and not is_class_within(facts, name, bound) for name in classes])


def _shows_parted(facts, one, other, paper):
    pair = Pair(facts, one, other)
    kinds = pair.kinds()
    if not isinstance(paper, tuple) or len(paper) != len(kinds):
        return False
    if not all([_is_closed_value(facts, value, kind) for value, kind in zip(paper, kinds)]):
        return False
    suits = [_suiting(facts, value, entries) for value, entries in zip(paper, pair.places)]
    if any([told[0] != told[1] for told in suits]):
        return True
    return all([told[0] for told in suits]) and pair.differs_with([pair.note(value) for value in paper])


def _is_closed_value(facts, value, kind):
    """Whether any value is a closed value for a parameter of this kind."""
    layout = layout_of(value, VALUES)
    if layout is None or kind_of_value(value) != kind or first_misfit(facts, layout) is not None:
        return False
    return parameters_of(facts, value) == () and all([part[0] not in facts.bodies for part in layout[0]])


def _suiting(facts, value, entries):
    """Whether a closed value keeps the bound of each of two parameters."""
    return [entry[3] is None or keeps_bound(facts, laid_out(value), entry[3]) for entry in entries]


def _shows_alike(facts, one, other, paper):
    pair = Pair(facts, one, other)
    if "plain" in pair.kinds() and not ClosedLists(facts).has_terms():
        return paper == ()
    if not isinstance(paper, tuple) or len(paper) != len(pair.places):
        return False
    if not all([_is_test(pair, place, test) for place, test in enumerate(paper)]):
        return False
    return _are_fresh(pair, paper) and _are_equal_with(pair, paper)


def _is_test(pair, place, value):
    """Whether any value is a test for a place, apart from other tests and the bodies."""
    if not _are_bounds_alike(pair.facts, [entry[3] for entry in pair.places[place]]) or not _is_pair(value):
        return False
    if value[0] == "fresh":
        return _is_suiting(pair, place, value[1]) and _single_term(value[1]) is not None
    return value[0] == "all" and _are_all(pair, place, value[1])


def _are_bounds_alike(facts, bounds):
    """Whether there are no bounds, or the classes of each one are within the other."""
    one, other = bounds
    if one is None or other is None:
        return one == other
    return all([is_class_within(facts, name, other) for name in one]) and all(
        [is_class_within(facts, name, one) for name in other])


def _is_suiting(pair, place, value):
    """Whether any value is a closed value that suits both parameters at a place."""
    entries = pair.places[place]
    return _is_closed_value(pair.facts, value, entries[0][2]) and all(_suiting(pair.facts, value, entries))


def _single_term(value):
    """The term of a closed value that holds a single one, which is no union, or None."""
    if value[0] == "[]" or value[0] == "()":
        if len(value[1]) != 1 or value[2:] not in ((), (None,)):
            return None
        value = value[1][0]
    return None if value[0] in ("|", "...") else value


def _are_all(pair, place, values):
    """Whether any value is a tuple of all closed values that suit at a place with a
    bound, each one once."""
    terms = pair.common_terms(place)
    if terms is None or not isinstance(values, tuple) or len(values) != len(terms):
        return False
    if not all([_is_suiting(pair, place, value) for value in values]):
        return False
    return len(set([pair.note(value)[1] for value in values])) == len(values)


def _are_fresh(pair, tests):
    """Whether the term of each test with "fresh" stands in no other such term, and
    in no body, whatever values of the other tests stand in it."""
    layouts = [laid_out(_single_term(value)) for way, value in tests if way == "fresh"]
    numbers = [numbered(pair.numbers, layout) for layout in layouts]
    for at, inside in enumerate(numbers):
        if any([other[0] in inside for other in numbers[:at] + numbers[at + 1:]]):
            return False
    if not numbers:
        return True
    for notes in _choices(pair, tests, pair.fresh_notes()):
        for body in pair.body_notes(notes):
            inside = numbered(pair.numbers, laid_out(body[0]))
            if any([own[0] in inside for own in numbers]):
                return False
    return True


def _are_equal_with(pair, tests):
    """Whether the bodies are equal for each choice of a value from each test."""
    notes = [pair.note(value) if way == "fresh" else None for way, value in tests]
    return not any([pair.differs_with(chosen) for chosen in _choices(pair, tests, notes)])


def _choices(pair, tests, notes):
    """The list of the notes with a value from each test with "all" at its place."""
    found = [[]]
    for (way, values), note in zip(tests, notes):
        given = [note] if way == "fresh" else [pair.note(value) for value in values]
        found = [[*before, value] for before in found for value in given]
    return found


def _is_pair(value):
    return isinstance(value, tuple) and len(value) == 2


_CHECKS = {"within": _shows_within, "outside": _shows_outside, "parted": _shows_parted, "alike": _shows_alike}
