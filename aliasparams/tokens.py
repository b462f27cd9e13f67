"""The pieces that texts consist of."""

# No text of a term has a line feed or a tab, so they can mark what is found.
_SIGNS = (", ", " | ", " -> ", "...", "[", "]", "(", ")")


def tokens_of(text):
    """The list of the names and the signs of the text of a term, an item or inputs.

    Those of another text are no tokens of it: they make another text, or none.
    """
    for sign in _SIGNS:
        text = text.replace(sign, f"\n{sign}\n")
    text = text.replace("**", "\n\t\n").replace("*", "\n*\n").replace("\t", "**")
    return [token for token in text.split("\n") if token]
