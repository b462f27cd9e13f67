"""What a book says of its names, ready for the questions that are asked often."""

from aliasparams.expanding import expanded_term
from aliasparams.heads import heads_of
from aliasparams.sizes import weight_of


class Facts:
    """The entries of a book, noted one behind the other, and what follows from them."""

    def __init__(self):
        # Of each name its entry.
        self.by_name = {}
        # Of each core class the names from it up to a class without a base.
        self.lines = {}
        # Of each alias the heads of its body, its own parameters among them.
        self.body_heads = {}
        # Of each alias the expanded body.
        self.bodies = {}
        # Of each alias how the full size of a use follows from its values.
        self.weights = {}

    def note(self, entry):
        """Take in an entry that may stand behind those noted so far."""
        kind, name, parameters, last = entry
        self.by_name[name] = entry
        if kind == "class":
            above = self.line_above(parameters, last)
            if above is not None:
                self.lines[name] = (name, *above)
        if kind == "alias":
            self.body_heads[name] = heads_of(self, last)
            self.bodies[name] = expanded_term(self, last)
            self.weights[name] = weight_of(self.weights, parameters, last)

    def line_above(self, parameters, base):
        """The core classes above a class with these parameters and this base,
        or None if it is no core class."""
        if parameters:
            return None
        return () if base is None else self.lines.get(base[0])
