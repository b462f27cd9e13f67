"""The promises once more, as near to the words of DOC.md as can be.

Slow, and good for shallow values only: what the tests compare the package with.
"""

import re


def is_name(value):
    return isinstance(value, str) and re.fullmatch("[a-z]{1,6}", value) is not None


def is_tuple(value, length):
    return isinstance(value, tuple) and len(value) == length


def is_use(value):
    return (is_tuple(value, 2) and is_name(value[0]) and isinstance(value[1], tuple)
            and all(is_value(inner) for inner in value[1]))


def is_signature(value):
    return is_tuple(value, 3) and value[0] == "->" and is_inputs(value[1]) and is_any_term(value[2])


def is_union(value):
    if not (is_tuple(value, 2) and value[0] == "|" and isinstance(value[1], tuple)):
        return False
    members = value[1]
    if len(members) < 2 or not all(is_use(inner) or is_signature(inner) for inner in members):
        return False
    return len({canonical(inner) for inner in members}) == len(members)


def is_any_term(value):
    return is_use(value) or is_signature(value) or is_union(value)


def is_row(value):
    return (is_tuple(value, 2) and value[0] == "[]" and isinstance(value[1], tuple)
            and all(is_item(inner) for inner in value[1]))


def is_inputs(value):
    if not (is_tuple(value, 3) and value[0] == "()" and isinstance(value[1], tuple)):
        return False
    tail = value[2]
    return all(is_item(inner) for inner in value[1]) and (tail in (None, "...") or is_name(tail))


def is_item(value):
    if is_any_term(value):
        return True
    if is_tuple(value, 2) and value[0] == "*":
        return is_name(value[1])
    return is_tuple(value, 2) and value[0] == "..." and is_any_term(value[1])


def is_value(value):
    return is_any_term(value) or is_row(value) or is_inputs(value)


def is_term(value):
    return is_any_term(value) and len(nodes(value)) <= 150


def canonical(value):
    """The same for equal terms only: members of unions without an order."""
    if isinstance(value, tuple):
        if value and value[0] == "|":
            return "|", frozenset(canonical(member) for member in value[1])
        return tuple(canonical(inner) for inner in value)
    return value


def below(part):
    """The parts in a part; a tail is a string."""
    if isinstance(part, str) or part[0] == "*":
        return []
    if part[0] in ("->", "..."):
        return list(part[1:])
    if part[0] == "()":
        return list(part[1]) + [part[2]] * (part[2] is not None)
    return list(part[1])


def nodes(part):
    found = [] if part[0] in ("[]", "()") else [part]
    for inner in below(part):
        found += nodes(inner)
    return found


def joined(terms):
    flat = []
    for term in terms:
        flat += term[1] if term[0] == "|" else [term]
    kept = []
    for term in flat:
        if all(canonical(term) != canonical(other) for other in kept):
            kept.append(term)
    return kept[0] if len(kept) == 1 else ("|", tuple(kept))


def unjoined(terms):
    return "|", tuple(terms)


def put(part, mapping, join=joined):
    """A part with the parameters replaced by the values of the mapping."""
    if part[0] in ("[]", "()"):
        items, tail = [], part[2] if part[0] == "()" else None
        for item in part[1]:
            if item[0] == "*" and item[1] in mapping:
                items += mapping[item[1]][1]
            else:
                items.append(put(item, mapping, join))
        if tail in mapping:
            items += mapping[tail][1]
            tail = mapping[tail][2]
        return ("[]", tuple(items)) if part[0] == "[]" else ("()", tuple(items), tail)
    if part[0] == "*":
        return part
    if part[0] in ("->", "..."):
        return (part[0],) + tuple(put(inner, mapping, join) for inner in part[1:])
    if part[0] == "|":
        return join([put(inner, mapping, join) for inner in part[1]])
    if part[0] in mapping:
        return mapping[part[0]]
    return part[0], tuple(put(inner, mapping, join) for inner in part[1])


def expanded(table, part, join=joined):
    """A part with the aliases expanded, of any size."""
    if part[0] in ("[]", "()"):
        return (part[0], tuple(expanded(table, item, join) for item in part[1])) + part[2:]
    if part[0] == "*":
        return part
    if part[0] in ("->", "..."):
        return (part[0],) + tuple(expanded(table, inner, join) for inner in part[1:])
    if part[0] == "|":
        return join([expanded(table, inner, join) for inner in part[1]])
    values = tuple(expanded(table, inner, join) for inner in part[1])
    entry = table[part[0]]
    if entry[0] == "alias":
        return expanded(table, put(entry[3], dict(zip(entry[2], values)), join), join)
    return part[0], values


def heads(table, term):
    term = expanded(table, term)
    return [member[0] for member in term[1]] if term[0] == "|" else [term[0]]


def is_within(table, term, bound):
    return all(is_head_within(table, head, bound) for head in heads(table, term))


def is_head_within(table, head, bound):
    if head == "->":
        return False
    entry = table[head]
    if entry[0] == "parameter":
        return entry[3] is not None and all(is_head_within(table, name, bound) for name in entry[3])
    while True:
        if entry[2] or entry[3] and table[entry[3][0]][2]:
            return False
        if entry[1] in bound:
            return True
        if entry[3] is None:
            return False
        entry = table[entry[3][0]]


def misfit(table, term):
    """The first misfit of a term: its number and what it is."""
    for number, (part, bound) in enumerate(bounded_nodes(table, term, None)):
        reason = misfit_of(table, part)
        if reason is None and bound is not None and misfit(table, part) is None:
            reason = None if is_within(table, part, bound) else "bound"
        if reason is not None:
            return number, reason
    return None


def bounded_nodes(table, part, bound):
    """All nodes of a part, each with the bound that it is the first node for."""
    found = [] if part[0] in ("[]", "()") else [(part, bound)]
    bounds = [None] * 200
    entry = None if isinstance(part, str) else table.get(part[0])
    if entry is not None and entry[0] != "parameter":
        bounds = [table[name][3] for name in entry[2]] + bounds
    for inner, inner_bound in zip(below(part), bounds):
        found += bounded_nodes(table, inner, inner_bound)
    return found


def misfit_of(table, part):
    """The misfit of a node by itself, or None."""
    if isinstance(part, str):
        return None if part == "..." else misfit_of_name(table, part, "signature")
    if part[0] == "*":
        return misfit_of_name(table, part[1], "variadic")
    if part[0] in ("->", "|", "..."):
        return None
    if part[0] not in table:
        return "unknown"
    entry = table[part[0]]
    if entry[0] == "parameter":
        if entry[2] != "plain":
            return "kind"
        return "count" if part[1] else None
    kinds = [table[name][2] for name in entry[2]]
    if len(part[1]) != len(kinds):
        return "count"
    fits = {"plain": is_any_term, "variadic": is_row, "signature": is_inputs}
    return None if all(fits[kind](value) for kind, value in zip(kinds, part[1])) else "value"


def misfit_of_name(table, name, kind):
    if name not in table:
        return "unknown"
    return None if table[name][0] == "parameter" and table[name][2] == kind else "kind"


def text(value):
    """The text of a term or an item, or of inputs as a value."""
    if value[0] == "()":
        return "[" + ", ".join(pieces(value)) + "]"
    if value[0] == "*":
        return "*" + value[1]
    if value[0] == "...":
        return text_in(value[1], ["|", "->"]) + "..."
    if value[0] == "|":
        return " | ".join(text_in(member, ["->"]) for member in value[1])
    if value[0] == "->":
        return "(" + ", ".join(pieces(value[1])) + ") -> " + text_in(value[2], ["|"])
    if value[1] == ():
        return value[0]
    found = []
    for inner in value[1]:
        found += pieces(inner) if inner[0] == "[]" else [text(inner)]
    return value[0] + "[" + ", ".join(found) + "]"


def text_in(term, heads):
    return "(" + text(term) + ")" if term[0] in heads else text(term)


def pieces(value):
    """The texts of the items of a row, or of those of inputs and of the tail."""
    found = [text(item) for item in value[1]]
    if value[0] == "()" and value[2] is not None:
        found.append("..." if value[2] == "..." else "**" + value[2])
    return found


def read(table, given):
    """The term, item or inputs with this text, which may have misfits. Raises
    ValueError."""
    if given.startswith("**") or given == "...":
        raise ValueError(given)
    if given.startswith("["):
        return read_inputs(table, inside(given))
    return read_item(table, given)


def read_item(table, given):
    if given.startswith("*"):
        return "*", checked_name(given[1:])
    if given.endswith("..."):
        return "...", read_in(table, given[:-3], ["|", "->"])
    return read_term(table, given)


def read_inputs(table, given):
    found = separated(given, ", ") if given else []
    tail = None
    if found and found[-1] == "...":
        tail = found.pop()
    elif found and found[-1].startswith("**"):
        tail = checked_name(found.pop()[2:])
    return "()", tuple(read_item(table, inner) for inner in found), tail


def read_term(table, given):
    members = separated(given, " | ")
    if len(members) > 1:
        return "|", tuple(read_in(table, member, ["->"]) for member in members)
    if given.startswith("("):
        end = closing(given)
        if not given[end + 1:].startswith(" -> "):
            raise ValueError(given)
        return "->", read_inputs(table, given[1:end]), read_in(table, given[end + 5:], ["|"])
    name, sign, rest = given.partition("[")
    values = separated(inside(sign + rest), ", ") if rest not in ("", "]") else []
    return checked_name(name), read_values(table, name, sign, values)


def read_values(table, name, sign, texts):
    entry = table.get(name, ("parameter",))
    names = () if entry[0] == "parameter" else entry[2]
    if (sign == "[") != (len(names) > 0):
        raise ValueError(name)
    kinds = [table[inner][2] for inner in names]
    more = len(texts) - len(kinds)
    if "variadic" in kinds:
        more += 1
    found = []
    for kind in kinds:
        many = more if kind == "variadic" else 1
        if many < 0 or len(texts) < many:
            raise ValueError(name)
        given, texts = texts[:many], texts[many:]
        if kind == "variadic":
            found.append(("[]", tuple(read_item(table, inner) for inner in given)))
        else:
            found.append(read(table, given[0]))
    if texts:
        raise ValueError(name)
    return tuple(found)


def read_in(table, given, heads):
    """A term that is written in parentheses exactly if it begins with one of these."""
    if given.startswith("(") and closing(given) == len(given) - 1:
        term = read_term(table, given[1:-1])
        if term[0] not in heads:
            raise ValueError(given)
        return term
    term = read_term(table, given)
    if term[0] in heads:
        raise ValueError(given)
    return term


def checked_name(given):
    if not is_name(given):
        raise ValueError(given)
    return given


def closing(given):
    """The place of the bracket that closes the one at the start of a text."""
    depth = 0
    for at, sign in enumerate(given):
        depth += (sign in "([") - (sign in ")]")
        if depth == 0:
            if {"(": ")", "[": "]"}.get(given[0]) != sign:
                raise ValueError(given)
            return at
    raise ValueError(given)


def inside(given):
    if closing(given) != len(given) - 1:
        raise ValueError(given)
    return given[1:-1]


def separated(given, sign):
    """The pieces between the signs that stand in no brackets."""
    found, depth, start = [], 0, 0
    for at, other in enumerate(given):
        depth += (other in "([") - (other in ")]")
        if depth == 0 and given.startswith(sign, at):
            found.append(given[start:at])
            start = at + len(sign)
    return found + [given[start:]]


def climb(table, term):
    """The bases of a use of a class, each with the values substituted, of any size."""
    found = []
    while table[term[0]][3] is not None:
        term = put(table[term[0]][3], dict(zip(table[term[0]][2], term[1])))
        found.append(term)
    return found


def full_size(table, term):
    return len(nodes(expanded(table, term, unjoined)))


def terms_in(part):
    """A part and the terms in it."""
    return [inner for inner in nodes(part) if is_any_term(inner)]


def climbs_too_far(table, term):
    """Whether a base above a use of a class has more than 150 nodes if nothing is joined."""
    for base in climb(table, term):
        entry = table[term[0]]
        if len(nodes(put(entry[3], dict(zip(entry[2], term[1])), unjoined))) > 150:
            return True
        term = base
    return False


def first_wrong(entries):
    """The position of the first value that is no entry behind those before it, or None."""
    table = {}
    for position, entry in enumerate(entries):
        if not is_entry(table, entry):
            return position
        table[entry[1]] = entry
    return None


def is_entry(table, entry):
    if not is_tuple(entry, 4) or not is_name(entry[1]) or entry[1] in table:
        return False
    if entry[0] == "parameter":
        return entry[2] in ("plain", "variadic", "signature") and (
            entry[3] is None or entry[2] == "plain" and is_bound(table, entry[3]))
    if entry[0] not in ("class", "alias") or not are_parameters(table, entry[2]):
        return False
    if entry[0] == "class" and entry[3] is None:
        return bool(entry[2]) or len(core(table)) < 4
    term = entry[3]
    if not is_term(term) or len(nodes(term)) > 20 or misfit(table, term) is not None:
        return False
    if not set(parameters(table, term)) <= set(entry[2]):
        return False
    if entry[0] == "alias":
        return all(full_size(table, inner) <= 150 for inner in terms_in(term))
    if term[0] not in table or table[term[0]][0] != "class" or climbs_too_far(table, term):
        return False
    return len(core(table | {entry[1]: entry})) <= 4


def core(table):
    return [name for name in table if is_core(table, name)]


def is_core(table, name):
    entry = table[name]
    if entry[0] != "class" or entry[2]:
        return False
    return entry[3] is None or is_core(table, entry[3][0])


def is_bound(table, bound):
    return (isinstance(bound, tuple) and 1 <= len(bound) <= 4 and all(isinstance(name, str) for name in bound)
            and list(bound) == sorted(set(bound)) and set(bound) <= set(core(table)))


def are_parameters(table, names):
    if not isinstance(names, tuple) or len(names) > 3 or not all(isinstance(name, str) for name in names):
        return False
    found = [table.get(name, "?") for name in names]
    return (all(entry[0] == "parameter" for entry in found) and len(set(names)) == len(names)
            and sum(entry[2] == "variadic" for entry in found) <= 1)


def parameters(table, term):
    """The names of parameters in a fitting term, each as often as it stands there."""
    found = []
    for part in nodes(term):
        name = part if isinstance(part, str) else part[1] if part[0] == "*" else part[0]
        if table.get(name, "?")[0] == "parameter":
            found.append(name)
    return found
