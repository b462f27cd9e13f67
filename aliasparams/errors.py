"""The errors of the package, each with its fields as attributes.

The messages name no field: a field may be any value, also one that is nested
too deep or is too large to be shown.
"""


class NoBook(ValueError):
    """The entry at this position, or the whole (-1), makes no book."""

    def __init__(self, position):
        ValueError.__init__(self, "no book")
        self.position = position


class NoName(KeyError):
    """A value that is not such a name of the book."""

    def __init__(self, name):
        KeyError.__init__(self, "no such name")
        self.name = name


class NoTerm(ValueError):
    """No term (-1, "form"), or the first node with a misfit, and its misfit."""

    def __init__(self, number, reason):
        ValueError.__init__(self, "no fitting term")
        self.number = number
        self.reason = reason


class NoArgument(LookupError):
    """The argument at this position, or for this name, fails for a reason."""

    def __init__(self, position, reason):
        LookupError.__init__(self, "no argument for this parameter")
        self.position = position
        self.reason = reason


class WrongCount(IndexError):
    """Another number of arguments is given than is needed."""

    def __init__(self, given, needed):
        IndexError.__init__(self, "wrong number of arguments")
        self.given = given
        self.needed = needed


class TooLarge(OverflowError):
    """A result has more nodes than the limit."""

    def __init__(self, limit):
        OverflowError.__init__(self, "too large")
        self.limit = limit


class OtherShape(ArithmeticError):
    """Two aliases whose parameters are not of the same kinds."""

    def __init__(self, one, other):
        ArithmeticError.__init__(self, "not of the same shape")
        self.one = one
        self.other = other


class NoText(ValueError):
    """A value that is not the text of what is read."""

    def __init__(self, text):
        ValueError.__init__(self, "no such text")
        self.text = text


class NoClaim(ValueError):
    """A value that is not a claim about the book."""

    def __init__(self, claim):
        ValueError.__init__(self, "no claim")
        self.claim = claim


class NoChange(RuntimeError):
    """The entry of this name cannot be changed so."""

    def __init__(self, name):
        RuntimeError.__init__(self, "no such change")
        self.name = name


class NoCommand(TypeError):
    """A value that is not a command of the console."""

    def __init__(self):
        TypeError.__init__(self, "no command")


class NothingToUndo(RuntimeError):
    """No change is left that could be reverted."""

    def __init__(self):
        RuntimeError.__init__(self, "nothing to undo")
