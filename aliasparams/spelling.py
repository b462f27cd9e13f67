"""Parts as strings."""


def spelled(part, keys):
    """The key of a part, from the keys of the parts directly in it.

    It can be read from left to right in one way only, so two parts with the
    same key are equal.
    """
    head = part[0]
    if head in ("*", "**"):
        return head + part[1]
    inside = sorted(keys) if head == "|" else keys
    return head + "[" + ",".join(inside) + "]"


def lettered(part, texts):
    """The letters of a part, from those of the parts directly in it: the same
    exactly for parts that are written alike."""
    head = part[0]
    if head in ("*", "**"):
        return head + part[1]
    return head + "[" + ",".join(texts) + "]"
