"""Parts as strings."""


def spelled(part, keys):
    """The key of a part, from the keys of the parts directly in it: the same
    exactly for equal parts."""
    return lettered(part, sorted(keys) if part[0] == "|" else keys)


def lettered(part, texts):
    """The letters of a part, from those of the parts directly in it: the same
    exactly for parts that are written alike.

    They can be read from left to right in one way only.
    """
    if part[0] in ("*", "**"):
        return part[0] + part[1]
    return part[0] + "[" + ",".join(texts) + "]"
