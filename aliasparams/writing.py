"""The texts of terms, items and inputs."""

from aliasparams.parts import folded


def written(layout):
    """The text of a term or an item, or of inputs as a value, that is laid out."""
    return _as_value(layout[0][0], folded(layout, _text_of))


def _text_of(part, texts):
    """The text of a part from those of its parts; of inputs without what stands
    around them."""
    head = part[0]
    if head not in _WRITERS:
        return _text_of_use(part, texts)
    writer = _WRITERS[head]
    return writer(part, texts)


def _text_of_use(part, texts):
    if not texts:
        return part[0]
    # A row without items leaves no trace, not even a comma.
    values = [_as_value(value, text) for value, text in zip(part[1], texts) if text or value[0] != "[]"]
    return f"{part[0]}[{', '.join(values)}]"


def _text_of_star(part, texts):
    return f"*{part[1]}"


def _text_of_tail(part, texts):
    return part[1] if part[1] == "..." else f"**{part[1]}"


def _text_of_items(part, texts):
    return ", ".join(texts)


def _text_of_many(part, texts):
    return _in_parentheses(part[1], texts[0], ("|", "->")) + "..."


def _text_of_union(part, texts):
    members = [_in_parentheses(member, text, ("->",)) for member, text in zip(part[1], texts)]
    return " | ".join(members)


def _text_of_signature(part, texts):
    return f"({texts[0]}) -> " + _in_parentheses(part[2], texts[1], ("|",))


def _in_parentheses(part, text, heads):
    """The text of a part, in parentheses if it begins with one of these heads."""
    return f"({text})" if part[0] in heads else text


def _as_value(part, text):
    return f"[{text}]" if part[0] == "()" else text


_WRITERS = {
    "*": _text_of_star, "**": _text_of_tail, "[]": _text_of_items, "()": _text_of_items,
    "...": _text_of_many, "|": _text_of_union, "->": _text_of_signature,
}
