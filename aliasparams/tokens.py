"""The pieces that texts consist of."""

# The signs that are longer than one character.
_SIGNS = (", ", " | ", " -> ", "...", "**")


def tokens_of(text):
    """The list of the names, the signs and the other characters of a text."""
    found = []
    at = 0
    while at < len(text):
        token = _token_at(text, at)
        found.append(token)
        at += len(token)
    return found


def _token_at(text, at):
    for sign in _SIGNS:
        if text.startswith(sign, at):
            return sign
    end = at
    while end < len(text) and "a" <= text[end] <= "z":
        end += 1
    return text[at:max(end, at + 1)]
