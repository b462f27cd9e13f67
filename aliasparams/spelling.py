"""Keys: strings that are the same exactly for equal parts."""


def spelled(part, keys):
    """The key of a part, from the keys of the parts directly in it.

    It can be read from left to right in one way only, so two parts with the
    same key are equal.
    """
    head = part[0]
    if head in ("*", "**"):
        return head + part[1]
    inside = sorted(keys) if head == "|" else keys
    return head + "[" + ",".join(inside) + "]"
