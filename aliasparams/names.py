"""Names of parameters, classes and aliases."""


def is_name(value):
    """Whether any value is a string of one to six letters from a to z."""
    if not isinstance(value, str) or not 1 <= len(value) <= 6:
        return False
    return all(["a" <= sign <= "z" for sign in value])
