"""The promises once more, as near to the words of DOC.md as can be.

Slow, and good for shallow values only: what the tests compare the package with.
"""

import re


def is_name(value):
    return isinstance(value, str) and re.fullmatch("[a-z]{1,6}", value) is not None


def is_tuple(value, length):
    return isinstance(value, tuple) and len(value) == length


def is_use(value):
    return (is_tuple(value, 2) and is_name(value[0]) and isinstance(value[1], tuple)
            and all(is_value(inner) for inner in value[1]))


def is_signature(value):
    return is_tuple(value, 3) and value[0] == "->" and is_inputs(value[1]) and is_any_term(value[2])


def is_union(value):
    if not (is_tuple(value, 2) and value[0] == "|" and isinstance(value[1], tuple)):
        return False
    members = value[1]
    if len(members) < 2 or not all(is_use(inner) or is_signature(inner) for inner in members):
        return False
    return len({canonical(inner) for inner in members}) == len(members)


def is_any_term(value):
    return is_use(value) or is_signature(value) or is_union(value)


def is_row(value):
    return (is_tuple(value, 2) and value[0] == "[]" and isinstance(value[1], tuple)
            and all(is_item(inner) for inner in value[1]))


def is_inputs(value):
    if not (is_tuple(value, 3) and value[0] == "()" and isinstance(value[1], tuple)):
        return False
    tail = value[2]
    return all(is_item(inner) for inner in value[1]) and (tail in (None, "...") or is_name(tail))


def is_item(value):
    if is_any_term(value):
        return True
    if is_tuple(value, 2) and value[0] == "*":
        return is_name(value[1])
    return is_tuple(value, 2) and value[0] == "..." and is_any_term(value[1])


def is_value(value):
    return is_any_term(value) or is_row(value) or is_inputs(value)


def is_term(value):
    return is_any_term(value) and len(nodes(value)) <= 150


def canonical(value):
    """The same for equal terms only: members of unions without an order."""
    if isinstance(value, tuple):
        if value and value[0] == "|":
            return "|", frozenset(canonical(member) for member in value[1])
        return tuple(canonical(inner) for inner in value)
    return value


def below(part):
    """The parts in a part; a tail is a string."""
    if isinstance(part, str) or part[0] == "*":
        return []
    if part[0] in ("->", "..."):
        return list(part[1:])
    if part[0] == "()":
        return list(part[1]) + [part[2]] * (part[2] is not None)
    return list(part[1])


def nodes(part):
    found = [] if part[0] in ("[]", "()") else [part]
    for inner in below(part):
        found += nodes(inner)
    return found


def joined(terms):
    flat = []
    for term in terms:
        flat += term[1] if term[0] == "|" else [term]
    kept = []
    for term in flat:
        if all(canonical(term) != canonical(other) for other in kept):
            kept.append(term)
    return kept[0] if len(kept) == 1 else ("|", tuple(kept))


def unjoined(terms):
    return "|", tuple(terms)


def put(part, mapping, join=joined):
    """A part with the parameters replaced by the values of the mapping."""
    if part[0] in ("[]", "()"):
        items, tail = [], part[2] if part[0] == "()" else None
        for item in part[1]:
            if item[0] == "*" and item[1] in mapping:
                items += mapping[item[1]][1]
            else:
                items.append(put(item, mapping, join))
        if tail in mapping:
            items += mapping[tail][1]
            tail = mapping[tail][2]
        return ("[]", tuple(items)) if part[0] == "[]" else ("()", tuple(items), tail)
    if part[0] == "*":
        return part
    if part[0] in ("->", "..."):
        return (part[0],) + tuple(put(inner, mapping, join) for inner in part[1:])
    if part[0] == "|":
        return join([put(inner, mapping, join) for inner in part[1]])
    if part[0] in mapping:
        return mapping[part[0]]
    return part[0], tuple(put(inner, mapping, join) for inner in part[1])


def expanded(table, part, join=joined):
    """A part with the aliases expanded, of any size."""
    if part[0] in ("[]", "()"):
        return (part[0], tuple(expanded(table, item, join) for item in part[1])) + part[2:]
    if part[0] == "*":
        return part
    if part[0] in ("->", "..."):
        return (part[0],) + tuple(expanded(table, inner, join) for inner in part[1:])
    if part[0] == "|":
        return join([expanded(table, inner, join) for inner in part[1]])
    values = tuple(expanded(table, inner, join) for inner in part[1])
    entry = table[part[0]]
    if entry[0] == "alias":
        return expanded(table, put(entry[3], dict(zip(entry[2], values)), join), join)
    return part[0], values


def heads(table, term):
    term = expanded(table, term)
    return [member[0] for member in term[1]] if term[0] == "|" else [term[0]]


def is_within(table, term, bound):
    return all(is_head_within(table, head, bound) for head in heads(table, term))


def is_head_within(table, head, bound):
    if head == "->":
        return False
    entry = table[head]
    if entry[0] == "parameter":
        return entry[3] is not None and all(is_head_within(table, name, bound) for name in entry[3])
    while True:
        if entry[2] or entry[3] and table[entry[3][0]][2]:
            return False
        if entry[1] in bound:
            return True
        if entry[3] is None:
            return False
        entry = table[entry[3][0]]


def misfit(table, term):
    """The first misfit of a term: its number and what it is."""
    for number, (part, bound) in enumerate(bounded_nodes(table, term, None)):
        reason = misfit_of(table, part)
        if reason is None and bound is not None and misfit(table, part) is None:
            reason = None if is_within(table, part, bound) else "bound"
        if reason is not None:
            return number, reason
    return None


def bounded_nodes(table, part, bound):
    """All nodes of a part, each with the bound that it is the first node for."""
    found = [] if part[0] in ("[]", "()") else [(part, bound)]
    bounds = [None] * 200
    entry = None if isinstance(part, str) else table.get(part[0])
    if entry is not None and entry[0] != "parameter":
        bounds = [table[name][3] for name in entry[2]] + bounds
    for inner, inner_bound in zip(below(part), bounds):
        found += bounded_nodes(table, inner, inner_bound)
    return found


def misfit_of(table, part):
    """The misfit of a node by itself, or None."""
    if isinstance(part, str):
        return None if part == "..." else misfit_of_name(table, part, "signature")
    if part[0] == "*":
        return misfit_of_name(table, part[1], "variadic")
    if part[0] in ("->", "|", "..."):
        return None
    if part[0] not in table:
        return "unknown"
    entry = table[part[0]]
    if entry[0] == "parameter":
        if entry[2] != "plain":
            return "kind"
        return "count" if part[1] else None
    kinds = [table[name][2] for name in entry[2]]
    if len(part[1]) != len(kinds):
        return "count"
    fits = {"plain": is_any_term, "variadic": is_row, "signature": is_inputs}
    return None if all(fits[kind](value) for kind, value in zip(kinds, part[1])) else "value"


def misfit_of_name(table, name, kind):
    if name not in table:
        return "unknown"
    return None if table[name][0] == "parameter" and table[name][2] == kind else "kind"
