"""Papers that show claims."""

from aliasparams.claims import check_claim
from aliasparams.closed import ClosedLists
from aliasparams.heads import classes_of_head, heads_of
from aliasparams.pairs import LARGEST_BODY, Pair
from aliasparams.parts import laid_out
from aliasparams.searching import least_row


def paper_of(book, claim):
    """A paper of a claim, None if the claim is false. Raises NoClaim."""
    check_claim(book.facts, claim)
    kind, one, other = claim
    paper = _PAPERS[kind]
    return paper(book.facts, one, other)


def _paper_within(facts, term, bound):
    found = []
    for head in heads_of(facts, laid_out(term)):
        chains = [_chain_into(facts, name, bound) for name in classes_of_head(facts, head) or ()]
        if not chains or None in chains:
            return None
        found.append((head, tuple(chains)))
    return tuple(found)


def _chain_into(facts, name, bound):
    """The names from a core class up to the first one in a bound, or None."""
    line = facts.lines[name]
    for at, above in enumerate(line):
        if above in bound:
            return line[:at + 1]
    return None


def _paper_outside(facts, term, bound):
    for head in heads_of(facts, laid_out(term)):
        classes = classes_of_head(facts, head)
        if classes is None:
            return (head, ())
        for name in classes:
            if _chain_into(facts, name, bound) is None:
                return (head, facts.lines[name])
    return None


def _paper_parted(facts, one, other):
    return least_row(Pair(facts, one, other))


def _paper_alike(facts, one, other):
    pair = Pair(facts, one, other)
    if least_row(pair) is not None:
        return None
    lists = ClosedLists(facts)
    if not lists.has_terms():
        return ()
    return tuple([_test(pair, lists.terms[1][0], place) for place in range(len(pair.places))])


def _test(pair, base, place):
    """A test for a place, for which any closed term of one node may be taken."""
    terms = pair.common_terms(place)
    if terms is not None:
        return ("all", tuple([term for _, term in terms]))
    # No body has as many signatures within one another, and the innermost one
    # is another at each place, so that no such term stands in another one.
    term = ("->", ("()", (base,) * place, None), base)
    for _ in range(LARGEST_BODY):
        term = ("->", ("()", (), None), term)
    kind = pair.kinds()[place]
    if kind == "variadic":
        return ("fresh", ("[]", (term,)))
    return ("fresh", ("()", (term,), None) if kind == "signature" else term)


_PAPERS = {"within": _paper_within, "outside": _paper_outside, "parted": _paper_parted, "alike": _paper_alike}
