"""The texts of terms, items and inputs."""

from aliasparams.parts import folded, parts_of


def written(layout):
    """The text of a term or an item, or of inputs as a value, that is laid out."""
    return _as_value(layout[0][0], folded(layout, _text_of))


def _text_of(part, texts):
    """The text of a part from those of its parts; of inputs without what stands
    around them."""
    head = part[0]
    if head == "*":
        return f"*{part[1]}"
    if head == "**":
        return part[1] if part[1] == "..." else f"**{part[1]}"
    if head in ("[]", "()"):
        return ", ".join(texts)
    if head == "...":
        return _text_in_parentheses(part[1], texts[0], ("|", "->")) + "..."
    if head == "|":
        members = [_text_in_parentheses(member, text, ("->",)) for member, text in zip(part[1], texts)]
        return " | ".join(members)
    if head == "->":
        return f"({texts[0]}) -> " + _text_in_parentheses(part[2], texts[1], ("|",))
    return _text_of_use(part, texts)


def _text_in_parentheses(part, text, heads):
    """The text of a part, in parentheses if it begins with one of these heads."""
    return f"({text})" if part[0] in heads else text


def _text_of_use(part, texts):
    if not part[1]:
        return part[0]
    # A row without items leaves no trace, not even a comma.
    values = [_as_value(value, text) for value, text in zip(parts_of(part), texts) if value != ("[]", ())]
    return f"{part[0]}[{', '.join(values)}]"


def _as_value(part, text):
    return f"[{text}]" if part[0] == "()" else text
