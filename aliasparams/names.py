"""Names of parameters, classes and aliases."""


def is_name(value):
    """Whether any value is a string of one to six letters from a to z."""
    if not isinstance(value, str) or len(value) > 6:
        return False
    return value.isascii() and value.isalpha() and value.islower()
