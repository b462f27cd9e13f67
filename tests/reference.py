"""The promises once more, as near to the words of DOC.md as can be.

Slow, and good for shallow values only: what the tests compare the package with.
"""

import itertools
import re


def is_name(value):
    return isinstance(value, str) and re.fullmatch("[a-z]{1,6}", value) is not None


def is_tuple(value, length):
    return isinstance(value, tuple) and len(value) == length


def is_use(value):
    return (is_tuple(value, 2) and is_name(value[0]) and isinstance(value[1], tuple)
            and all(is_value(inner) for inner in value[1]))


def is_signature(value):
    return is_tuple(value, 3) and value[0] == "->" and is_inputs(value[1]) and is_any_term(value[2])


def is_union(value):
    if not (is_tuple(value, 2) and value[0] == "|" and isinstance(value[1], tuple)):
        return False
    members = value[1]
    if len(members) < 2 or not all(is_use(inner) or is_signature(inner) for inner in members):
        return False
    return len({canonical(inner) for inner in members}) == len(members)


def is_any_term(value):
    return is_use(value) or is_signature(value) or is_union(value)


def is_row(value):
    return (is_tuple(value, 2) and value[0] == "[]" and isinstance(value[1], tuple)
            and all(is_item(inner) for inner in value[1]))


def is_inputs(value):
    if not (is_tuple(value, 3) and value[0] == "()" and isinstance(value[1], tuple)):
        return False
    tail = value[2]
    return all(is_item(inner) for inner in value[1]) and (tail in (None, "...") or is_name(tail))


def is_item(value):
    if is_any_term(value):
        return True
    if is_tuple(value, 2) and value[0] == "*":
        return is_name(value[1])
    return is_tuple(value, 2) and value[0] == "..." and is_any_term(value[1])


def is_value(value):
    return is_any_term(value) or is_row(value) or is_inputs(value)


def is_term(value):
    return is_any_term(value) and len(nodes(value)) <= 150


def canonical(value):
    """The same for equal terms only: members of unions without an order."""
    if isinstance(value, tuple):
        if value and value[0] == "|":
            return "|", frozenset(canonical(member) for member in value[1])
        return tuple(canonical(inner) for inner in value)
    return value


def below(part):
    """The parts in a part; a tail is a string."""
    if isinstance(part, str) or part[0] == "*":
        return []
    if part[0] in ("->", "..."):
        return list(part[1:])
    if part[0] == "()":
        return list(part[1]) + [part[2]] * (part[2] is not None)
    return list(part[1])


def nodes(part):
    found = [] if part[0] in ("[]", "()") else [part]
    for inner in below(part):
        found += nodes(inner)
    return found


def joined(terms):
    flat = []
    for term in terms:
        flat += term[1] if term[0] == "|" else [term]
    kept = []
    for term in flat:
        if all(canonical(term) != canonical(other) for other in kept):
            kept.append(term)
    return kept[0] if len(kept) == 1 else ("|", tuple(kept))


def unjoined(terms):
    return "|", tuple(terms)


def put(part, mapping, join=joined):
    """A part with the parameters replaced by the values of the mapping."""
    if part[0] in ("[]", "()"):
        items, tail = [], part[2] if part[0] == "()" else None
        for item in part[1]:
            if item[0] == "*" and item[1] in mapping:
                items += mapping[item[1]][1]
            else:
                items.append(put(item, mapping, join))
        if tail in mapping:
            items += mapping[tail][1]
            tail = mapping[tail][2]
        return ("[]", tuple(items)) if part[0] == "[]" else ("()", tuple(items), tail)
    if part[0] == "*":
        return part
    if part[0] in ("->", "..."):
        return (part[0],) + tuple(put(inner, mapping, join) for inner in part[1:])
    if part[0] == "|":
        return join([put(inner, mapping, join) for inner in part[1]])
    if part[0] in mapping:
        return mapping[part[0]]
    return part[0], tuple(put(inner, mapping, join) for inner in part[1])


def expanded(table, part, join=joined):
    """A part with the aliases expanded, of any size."""
    if part[0] in ("[]", "()"):
        return (part[0], tuple(expanded(table, item, join) for item in part[1])) + part[2:]
    if part[0] == "*":
        return part
    if part[0] in ("->", "..."):
        return (part[0],) + tuple(expanded(table, inner, join) for inner in part[1:])
    if part[0] == "|":
        return join([expanded(table, inner, join) for inner in part[1]])
    values = tuple(expanded(table, inner, join) for inner in part[1])
    entry = table[part[0]]
    if entry[0] == "alias":
        return expanded(table, put(entry[3], dict(zip(entry[2], values)), join), join)
    return part[0], values


def heads(table, term):
    term = expanded(table, term)
    return [member[0] for member in term[1]] if term[0] == "|" else [term[0]]


def is_within(table, term, bound):
    return all(is_head_within(table, head, bound) for head in heads(table, term))


def is_head_within(table, head, bound):
    if head == "->":
        return False
    entry = table[head]
    if entry[0] == "parameter":
        return entry[3] is not None and all(is_head_within(table, name, bound) for name in entry[3])
    while True:
        if entry[2] or entry[3] and table[entry[3][0]][2]:
            return False
        if entry[1] in bound:
            return True
        if entry[3] is None:
            return False
        entry = table[entry[3][0]]


def misfit(table, term):
    """The first misfit of a term: its number and what it is."""
    for number, (part, bound) in enumerate(bounded_nodes(table, term, None)):
        reason = misfit_of(table, part)
        if reason is None and bound is not None and misfit(table, part) is None:
            reason = None if is_within(table, part, bound) else "bound"
        if reason is not None:
            return number, reason
    return None


def bounded_nodes(table, part, bound):
    """All nodes of a part, each with the bound that it is the first node for."""
    found = [] if part[0] in ("[]", "()") else [(part, bound)]
    bounds = [None] * 200
    entry = None if isinstance(part, str) else table.get(part[0])
    if entry is not None and entry[0] != "parameter":
        bounds = [table[name][3] for name in entry[2]] + bounds
    for inner, inner_bound in zip(below(part), bounds):
        found += bounded_nodes(table, inner, inner_bound)
    return found


def misfit_of(table, part):
    """The misfit of a node by itself, or None."""
    if isinstance(part, str):
        return None if part == "..." else misfit_of_name(table, part, "signature")
    if part[0] == "*":
        return misfit_of_name(table, part[1], "variadic")
    if part[0] in ("->", "|", "..."):
        return None
    if part[0] not in table:
        return "unknown"
    entry = table[part[0]]
    if entry[0] == "parameter":
        if entry[2] != "plain":
            return "kind"
        return "count" if part[1] else None
    kinds = [table[name][2] for name in entry[2]]
    if len(part[1]) != len(kinds):
        return "count"
    fits = {"plain": is_any_term, "variadic": is_row, "signature": is_inputs}
    return None if all(fits[kind](value) for kind, value in zip(kinds, part[1])) else "value"


def misfit_of_name(table, name, kind):
    if name not in table:
        return "unknown"
    return None if table[name][0] == "parameter" and table[name][2] == kind else "kind"


def text(value):
    """The text of a term or an item, or of inputs as a value."""
    if value[0] == "()":
        return "[" + ", ".join(pieces(value)) + "]"
    if value[0] == "*":
        return "*" + value[1]
    if value[0] == "...":
        return text_in(value[1], ["|", "->"]) + "..."
    if value[0] == "|":
        return " | ".join(text_in(member, ["->"]) for member in value[1])
    if value[0] == "->":
        return "(" + ", ".join(pieces(value[1])) + ") -> " + text_in(value[2], ["|"])
    if value[1] == ():
        return value[0]
    found = []
    for inner in value[1]:
        found += pieces(inner) if inner[0] == "[]" else [text(inner)]
    return value[0] + "[" + ", ".join(found) + "]"


def text_in(term, heads):
    return "(" + text(term) + ")" if term[0] in heads else text(term)


def pieces(value):
    """The texts of the items of a row, or of those of inputs and of the tail."""
    found = [text(item) for item in value[1]]
    if value[0] == "()" and value[2] is not None:
        found.append("..." if value[2] == "..." else "**" + value[2])
    return found


def read(table, given):
    """The term, item or inputs with this text, which may have misfits. Raises
    ValueError."""
    if given.startswith("**") or given == "...":
        raise ValueError(given)
    if given.startswith("["):
        return read_inputs(table, inside(given))
    return read_item(table, given)


def read_item(table, given):
    if given.startswith("*"):
        return "*", checked_name(given[1:])
    if given.endswith("..."):
        return "...", read_in(table, given[:-3], ["|", "->"])
    return read_term(table, given)


def read_inputs(table, given):
    found = separated(given, ", ") if given else []
    tail = None
    if found and found[-1] == "...":
        tail = found.pop()
    elif found and found[-1].startswith("**"):
        tail = checked_name(found.pop()[2:])
    return "()", tuple(read_item(table, inner) for inner in found), tail


def read_term(table, given):
    members = separated(given, " | ")
    if len(members) > 1:
        return "|", tuple(read_in(table, member, ["->"]) for member in members)
    if given.startswith("("):
        end = closing(given)
        if not given[end + 1:].startswith(" -> "):
            raise ValueError(given)
        return "->", read_inputs(table, given[1:end]), read_in(table, given[end + 5:], ["|"])
    name, sign, rest = given.partition("[")
    values = separated(inside(sign + rest), ", ") if rest not in ("", "]") else []
    return checked_name(name), read_values(table, name, sign, values)


def read_values(table, name, sign, texts):
    entry = table.get(name, ("parameter",))
    names = () if entry[0] == "parameter" else entry[2]
    if (sign == "[") != (len(names) > 0):
        raise ValueError(name)
    kinds = [table[inner][2] for inner in names]
    more = len(texts) - len(kinds)
    if "variadic" in kinds:
        more += 1
    found = []
    for kind in kinds:
        many = more if kind == "variadic" else 1
        if many < 0 or len(texts) < many:
            raise ValueError(name)
        given, texts = texts[:many], texts[many:]
        if kind == "variadic":
            found.append(("[]", tuple(read_item(table, inner) for inner in given)))
        else:
            found.append(read(table, given[0]))
    if texts:
        raise ValueError(name)
    return tuple(found)


def read_in(table, given, heads):
    """A term that is written in parentheses exactly if it begins with one of these."""
    if given.startswith("(") and closing(given) == len(given) - 1:
        term = read_term(table, given[1:-1])
        if term[0] not in heads:
            raise ValueError(given)
        return term
    term = read_term(table, given)
    if term[0] in heads:
        raise ValueError(given)
    return term


def checked_name(given):
    if not is_name(given):
        raise ValueError(given)
    return given


def closing(given):
    """The place of the bracket that closes the one at the start of a text."""
    depth = 0
    for at, sign in enumerate(given):
        depth += (sign in "([") - (sign in ")]")
        if depth == 0:
            if {"(": ")", "[": "]"}.get(given[0]) != sign:
                raise ValueError(given)
            return at
    raise ValueError(given)


def inside(given):
    if closing(given) != len(given) - 1:
        raise ValueError(given)
    return given[1:-1]


def separated(given, sign):
    """The pieces between the signs that stand in no brackets."""
    found, depth, start = [], 0, 0
    for at, other in enumerate(given):
        depth += (other in "([") - (other in ")]")
        if depth == 0 and given.startswith(sign, at):
            found.append(given[start:at])
            start = at + len(sign)
    return found + [given[start:]]


def climb(table, term):
    """The bases of a use of a class, each with the values substituted, of any size."""
    found = []
    while table[term[0]][3] is not None:
        term = put(table[term[0]][3], dict(zip(table[term[0]][2], term[1])))
        found.append(term)
    return found


def full_size(table, term):
    return len(nodes(expanded(table, term, unjoined)))


def terms_in(part):
    """A part and the terms in it."""
    return [inner for inner in nodes(part) if is_any_term(inner)]


def climbs_too_far(table, term):
    """Whether a base above a use of a class has more than 150 nodes if nothing is joined."""
    for base in climb(table, term):
        entry = table[term[0]]
        if len(nodes(put(entry[3], dict(zip(entry[2], term[1])), unjoined))) > 150:
            return True
        term = base
    return False


def first_wrong(entries):
    """The position of the first value that is no entry behind those before it, or None."""
    table = {}
    for position, entry in enumerate(entries):
        if not is_entry(table, entry):
            return position
        table[entry[1]] = entry
    return None


def is_entry(table, entry):
    if not is_tuple(entry, 4) or not is_name(entry[1]) or entry[1] in table:
        return False
    if entry[0] == "parameter":
        return entry[2] in ("plain", "variadic", "signature") and (
            entry[3] is None or entry[2] == "plain" and is_bound(table, entry[3]))
    if entry[0] not in ("class", "alias") or not are_parameters(table, entry[2]):
        return False
    if entry[0] == "class" and entry[3] is None:
        return bool(entry[2]) or len(core(table)) < 4
    term = entry[3]
    if not is_term(term) or len(nodes(term)) > 20 or misfit(table, term) is not None:
        return False
    if not set(parameters(table, term)) <= set(entry[2]):
        return False
    if entry[0] == "alias":
        return all(full_size(table, inner) <= 150 for inner in terms_in(term))
    if term[0] not in table or table[term[0]][0] != "class" or climbs_too_far(table, term):
        return False
    return len(core(table | {entry[1]: entry})) <= 4


def core(table):
    return [name for name in table if is_core(table, name)]


def is_core(table, name):
    entry = table[name]
    if entry[0] != "class" or entry[2]:
        return False
    return entry[3] is None or is_core(table, entry[3][0])


def is_bound(table, bound):
    return (isinstance(bound, tuple) and 1 <= len(bound) <= 4 and all(isinstance(name, str) for name in bound)
            and list(bound) == sorted(set(bound)) and set(bound) <= set(core(table)))


def are_parameters(table, names):
    if not isinstance(names, tuple) or len(names) > 3 or not all(isinstance(name, str) for name in names):
        return False
    found = [table.get(name, "?") for name in names]
    return (all(entry[0] == "parameter" for entry in found) and len(set(names)) == len(names)
            and sum(entry[2] == "variadic" for entry in found) <= 1)


def parameters(table, term):
    """The names of parameters in a fitting term, each as often as it stands there."""
    found = []
    for part in nodes(term):
        name = part if isinstance(part, str) else part[1] if part[0] == "*" else part[0]
        if table.get(name, "?")[0] == "parameter":
            found.append(name)
    return found


class Wrong(Exception):
    """What a call must be refused for."""


def is_argument_form(value):
    if is_tuple(value, 2) and value[0] == "...":
        return is_term(value[1])
    if is_inputs(value):
        return len(nodes(value)) <= 150
    return is_term(value) or is_tuple(value, 2) and value[0] == "*" and is_name(value[1])


def has_misfit(table, value):
    """Whether a value, an item or an argument has a misfit in it."""
    # Each of them fits exactly if a term around it does.
    table = table | {"zx": ("parameter", "zx", "variadic", None), "zy": ("class", "zy", ("zx",), None)}
    if value[0] == "()":
        return misfit(table, ("->", value, ("zy", (("[]", ()),)))) is not None
    if value[0] in ("[]", "*", "..."):
        row = value if value[0] == "[]" else ("[]", (value,))
        return misfit(table, ("zy", (row,))) is not None
    return misfit(table, value) is not None


def kinds_of_argument(value):
    if value[0] == "()":
        return ["signature"]
    return ["variadic"] if value[0] in ("*", "...") else ["plain", "variadic"]


def reason_of(table, value, name, has_form, kinds):
    """The first reason for which a value is none for a parameter, or None."""
    if not has_form(value):
        return "form"
    if table[name][2] not in kinds(value):
        return "kind"
    if has_misfit(table, value):
        return "misfit"
    if table[name][3] is not None and not is_within(table, value, table[name][3]):
        return "bound"
    return None


def matched(table, names, row):
    """What matched returns; raises Wrong with what the error tells."""
    kinds = [table[name][2] for name in names]
    needed = len(names) - ("variadic" in kinds)
    if len(row) < needed or len(row) > needed and "variadic" not in kinds:
        raise Wrong("count", len(row), needed)
    owners = list(names)
    if "variadic" in kinds:
        at = kinds.index("variadic")
        owners[at:at + 1] = [names[at]] * (len(row) - needed)
    for position, (name, value) in enumerate(zip(owners, row)):
        reason = reason_of(table, value, name, is_argument_form, kinds_of_argument)
        if reason is not None:
            raise Wrong("argument", position, reason)
    found = {}
    for name, kind in zip(names, kinds):
        given = tuple(value for owner, value in zip(owners, row) if owner == name)
        found[name] = ("[]", given) if kind == "variadic" else given[0]
    if any(len(nodes(value)) > 150 for value in found.values()):
        raise Wrong("large", 150)
    return found


def check_mapping(table, mapping):
    for name in mapping:
        if not is_name(name) or table.get(name, "?")[0] != "parameter":
            raise Wrong("name", name)
    form = lambda value: is_value(value) and len(nodes(value)) <= 150
    kind = lambda value: [{"[]": "variadic", "()": "signature"}.get(value[0], "plain")]
    for name, value in mapping.items():
        reason = reason_of(table, value, name, form, kind)
        if reason is not None:
            raise Wrong("argument", name, reason)


def put_within_limit(part, mapping):
    if len(nodes(put(part, mapping, unjoined))) > 150:
        raise Wrong("large", 150)
    return put(part, mapping)


def check_term(table, term):
    if not is_term(term):
        raise Wrong("term", -1, "form")
    found = misfit(table, term)
    if found is not None:
        raise Wrong("term", *found)


def substituted(table, term, mapping):
    check_term(table, term)
    check_mapping(table, mapping)
    return put_within_limit(term, mapping)


def ordered_parameters(table, term):
    return list(dict.fromkeys(parameters(table, term)))


def applied(table, term, row):
    check_term(table, term)
    return put_within_limit(term, matched(table, ordered_parameters(table, term), row))


def composed(table, first, second):
    check_mapping(table, first)
    check_mapping(table, second)
    found = {name: put_within_limit(first[name], second) for name in first}
    return found | {name: second[name] for name in second if name not in first}


def outside_unions(part):
    """The parts of a part that stand in no union."""
    found = [part]
    if part[0] != "|":
        for inner in [] if isinstance(part, str) else below(part):
            found += outside_unions(inner) if not isinstance(inner, str) else [inner]
    return found


def is_solvable(table, term):
    outside = outside_unions(term)
    names = [part if isinstance(part, str) else part[1] if part[0] == "*" else part[0] for part in outside]
    if not all(name in names for name in parameters(table, term)):
        return False
    for part in outside:
        if part[0] in ("[]", "()"):
            stars = [item for item in part[1] if item[0] == "*"]
            tails = [part[2]] if part[0] == "()" and part[2] not in (None, "...") else []
            if len(stars) + len(tails) > 1:
                return False
    return True


def solved(table, term, result):
    """The only mapping that may give this result, found by trying the parts of the result."""
    names = ordered_parameters(table, term)
    pools = {"plain": [], "variadic": [], "signature": []}
    for part in all_parts(result):
        if part[0] in ("[]", "()"):
            for start, end in itertools.combinations_with_replacement(range(len(part[1]) + 1), 2):
                pools["variadic"].append(("[]", part[1][start:end]))
            if part[0] == "()":
                pools["signature"] += [("()", part[1][at:], part[2]) for at in range(len(part[1]) + 1)]
        elif part[0] not in ("*", "..."):
            pools["plain"].append(part)
    for values in itertools.product(*[list(dict.fromkeys(pools[table[name][2]])) for name in names]):
        mapping = dict(zip(names, values))
        try:
            if canonical(substituted(table, term, mapping)) == canonical(result):
                return mapping
        except Wrong:
            pass
    return None


def all_parts(part):
    """The parts of a part apart from tails, rows and inputs too."""
    found = [part]
    for inner in below(part):
        if not isinstance(inner, str):
            found += all_parts(inner)
    return found


class Closed:
    """The closed values of a book by their sizes, in sets of their own for each question."""

    def __init__(self, table):
        self.table = table
        self.known = {}

    def kept(self, kind, many):
        if (kind, many) not in self.known:
            self.known[kind, many] = list(getattr(self, kind)(many)) if many >= 0 else []
        return self.known[kind, many]

    def values(self, name, many):
        """The closed values of a size that suit a parameter."""
        kind, bound = self.table[name][2:]
        if kind != "plain":
            return self.kept({"variadic": "rows", "signature": "inputs"}[kind], many)
        return [term for term in self.kept("terms", many) if bound is None or is_within(self.table, term, bound)]

    def terms(self, many):
        return self.kept("singles", many) + self.kept("unions", many)

    def singles(self, many):
        found = []
        for entry in self.table.values():
            if entry[0] == "class":
                for sizes in itertools.product(range(many), repeat=len(entry[2])):
                    if sum(sizes) == many - 1:
                        found += [(entry[1], values) for values in itertools.product(
                            *[self.values(name, part) for name, part in zip(entry[2], sizes)])]
        for part in range(many):
            found += [("->", given, result) for given in self.kept("inputs", part)
                      for result in self.kept("terms", many - 1 - part)]
        return found

    def unions(self, many):
        pool = [(part, at) for part in range(many - 1) for at in range(len(self.kept("singles", part)))]
        for length in range(2, many):
            for chosen in itertools.combinations(pool, length):
                if sum(part for part, _ in chosen) == many - 1:
                    yield "|", tuple(self.kept("singles", part)[at] for part, at in chosen)

    def rows(self, many):
        for items in self.sequences(many):
            yield "[]", items

    def inputs(self, many):
        for items in self.sequences(many):
            yield "()", items, None
        for items in self.sequences(many - 1):
            yield "()", items, "..."

    def sequences(self, many):
        if many == 0:
            yield ()
        for part in range(1, many + 1):
            items = self.kept("terms", part) + [("...", term) for term in self.kept("terms", part - 1)]
            for item in items:
                for rest in self.sequences(many - part):
                    yield (item,) + rest


def parts_them(table, one, other, row):
    """Whether a row of closed values parts two aliases."""
    bodies = []
    suits = []
    for alias in (table[one], table[other]):
        bounds = [table[name][3] for name in alias[2]]
        suits.append([bound is None or is_within(table, value, bound) for value, bound in zip(row, bounds)])
        bodies.append(canonical(put(expanded(table, alias[3]), dict(zip(alias[2], row)))))
    return suits[0] != suits[1] or all(suits[0]) and bodies[0] != bodies[1]


def least_parting_size(table, one, other, largest):
    """The size of a least row that parts two aliases, None if none does up to the largest size."""
    closed = Closed(table)
    kinds = [{"plain": "terms", "variadic": "rows", "signature": "inputs"}[table[name][2]] for name in table[one][2]]
    for total in range(largest + 1):
        for sizes in itertools.product(range(total + 1), repeat=len(kinds)):
            if sum(sizes) == total:
                for row in itertools.product(*[closed.kept(kind, many) for kind, many in zip(kinds, sizes)]):
                    if parts_them(table, one, other, row):
                        return total
    return None


def entry_table(table, name):
    """The table of an entry."""
    entry = table[name]
    if entry[0] == "parameter":
        return entry[2], entry[3]
    names = tuple((inner, table[inner][2], table[inner][3]) for inner in entry[2])
    if entry[0] == "alias":
        return names, expanded(table, entry[3])
    return names, () if entry[3] is None else (entry[3], *climb(table, entry[3]))


def touched(before, after):
    found = {name for name in [*before, *after]
             if name not in before or name not in after or entry_table(before, name) != entry_table(after, name)}
    return sorted(found)


def full_size_of_body(table, name):
    return full_size(table, table[name][3])


def kinds_of(table, name):
    return [table[inner][2] for inner in table[name][2]]


def is_claim(table, value):
    if not is_tuple(value, 3) or not isinstance(value[0], str):
        return False
    if value[0] in ("within", "outside"):
        return is_term(value[1]) and misfit(table, value[1]) is None and is_bound(table, value[2])
    if value[0] not in ("parted", "alike"):
        return False
    if not all(is_name(name) and table.get(name, "?")[0] == "alias" for name in value[1:]):
        return False
    return (kinds_of(table, value[1]) == kinds_of(table, value[2])
            and all(full_size_of_body(table, name) <= 30 for name in value[1:]))


def is_chain(table, start, chain):
    """Whether any value is a tuple of names, each one the base of the one before."""
    if not isinstance(chain, tuple) or not chain or chain[0] != start:
        return False
    return all(table[one][3] == (other, ()) for one, other in zip(chain, chain[1:]))


def is_paper_within(table, term, bound, paper):
    if not isinstance(paper, tuple) or not all(is_tuple(part, 2) for part in paper):
        return False
    if [part[0] for part in paper] != sorted(set(heads(table, term))):
        return False
    for head, chains in paper:
        starts = starts_of(table, head)
        if starts is None or not is_tuple(chains, len(starts)):
            return False
        if not all(is_chain(table, start, chain) and chain[-1] in bound for start, chain in zip(starts, chains)):
            return False
    return True


def starts_of(table, head):
    """The core classes at which the chains of a head begin, None if it has none."""
    if head == "->" or table[head][0] == "class" and not is_core(table, head):
        return None
    return (head,) if table[head][0] == "class" else table[head][3]


def is_paper_outside(table, term, bound, paper):
    if not is_tuple(paper, 2) or paper[0] not in heads(table, term):
        return False
    starts = starts_of(table, paper[0])
    if starts is None:
        return paper[1] == ()
    return any(is_chain(table, start, paper[1]) and table[paper[1][-1]][3] is None
               and not set(paper[1]) & set(bound) for start in starts)


def is_closed(table, value, kind):
    form = {"plain": is_any_term, "variadic": is_row, "signature": is_inputs}[kind]
    if not form(value) or len(nodes(value)) > 150 or has_misfit(table, value):
        return False
    for part in nodes(value):
        name = part if isinstance(part, str) else part[1] if part[0] == "*" else part[0]
        if table.get(name, "?")[0] in ("parameter", "alias"):
            return False
    return True


def is_paper_parted(table, one, other, paper):
    kinds = kinds_of(table, one)
    return (is_tuple(paper, len(kinds)) and all(is_closed(table, value, kind) for value, kind in zip(paper, kinds))
            and parts_them(table, one, other, paper))


def is_paper_alike(table, one, other, paper):
    kinds = kinds_of(table, one)
    closed = Closed(table)
    if "plain" in kinds and not closed.kept("terms", 1):
        return paper == ()
    if not is_tuple(paper, len(kinds)):
        return False
    names = list(zip(table[one][2], table[other][2]))
    if not all(is_test(table, pair, kind, test) for pair, kind, test in zip(names, kinds, paper)):
        return False
    bodies = [expanded(table, table[name][3]) for name in (one, other)]
    fresh = [(place, single(test[1])) for place, test in enumerate(paper) if test[0] == "fresh"]
    for place, term in fresh:
        for another, inside in fresh:
            if another != place and stands_in(term, inside):
                return False
    alls = [place for place, test in enumerate(paper) if test[0] == "all"]
    for choice in itertools.product(*[paper[place][1] for place in alls]):
        found = []
        for alias, body in zip((one, other), bodies):
            body = put(body, {table[alias][2][place]: value for place, value in zip(alls, choice)})
            if any(stands_in(term, body) for _, term in fresh):
                return False
            found.append(put(body, {table[alias][2][place]: paper[place][1] for place, _ in fresh}))
        if canonical(found[0]) != canonical(found[1]):
            return False
    return True


def single(value):
    return value if value[0] not in ("[]", "()") else value[1][0]


def stands_in(term, part):
    return canonical(term) in [canonical(inner) for inner in nodes(part) if not isinstance(inner, str)]


def is_test(table, names, kind, test):
    if not is_tuple(test, 2):
        return False
    bounds = [table[name][3] for name in names]
    if (bounds[0] is None) != (bounds[1] is None):
        return False
    if bounds[0] is not None:
        for one, other in [bounds, bounds[::-1]]:
            if not all(is_head_within(table, name, other) for name in one):
                return False
    suits = lambda value: is_closed(table, value, kind) and all(
        bound is None or is_within(table, value, bound) for bound in bounds)
    if test[0] == "fresh":
        value = test[1]
        if not suits(value):
            return False
        if kind != "plain":
            if len(value[1]) != 1 or value[2:] not in ((), (None,)):
                return False
        return is_any_term(single(value)) and not is_union(single(value))
    if test[0] != "all" or bounds[0] is None or not isinstance(test[1], tuple):
        return False
    if not all(suits(value) for value in test[1]):
        return False
    names = sorted(name for name in core(table) if is_head_within(table, name, bounds[0]))
    groups = [group for many in range(len(names)) for group in itertools.combinations(names, many + 1)]
    return sorted(canonical_text(value) for value in test[1]) == sorted("|".join(group) for group in groups)


def canonical_text(value):
    """A text that two closed values of core classes share exactly if they are equal."""
    members = value[1] if value[0] == "|" else (value,)
    return "|".join(sorted(member[0] for member in members))


def is_paper(table, claim, paper):
    kinds = {"within": is_paper_within, "outside": is_paper_outside, "parted": is_paper_parted, "alike": is_paper_alike}
    return kinds[claim[0]](table, *claim[1:], paper)
