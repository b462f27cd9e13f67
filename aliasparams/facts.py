"""What a book says of its names, ready for the questions that are asked often."""

from aliasparams.expanding import expanded_note
from aliasparams.heads import heads_of
from aliasparams.parts import laid_out
from aliasparams.sizes import weight_of


class Facts:
    """The entries of a book, noted one behind the other, and what follows from them."""

    def __init__(self):
        # Of each name its entry.
        self.by_name = {}
        # Of each class and alias the entries of its parameters, and their kinds.
        self.takes = {}
        self.taken_kinds = {}
        # Of each class and alias with a bound for a parameter: True.
        self.bounded = {}
        # Of each core class the names from it up to a class without a base.
        self.lines = {}
        # Of each alias the heads of its body, its own parameters among them.
        self.body_heads = {}
        # Of each alias its parameters and its expanded body, laid out.
        self.bodies = {}
        # Of each alias how the full size of a use follows from its values.
        self.weights = {}

    def note(self, entry):
        """Take in an entry that may stand behind those noted so far."""
        kind, name, parameters, last = entry
        self.by_name[name] = entry
        if kind == "parameter":
            return
        self.takes[name] = [self.by_name[inner] for inner in parameters]
        self.taken_kinds[name] = [taken[2] for taken in self.takes[name]]
        if any([taken[3] is not None for taken in self.takes[name]]):
            self.bounded[name] = True
        if kind == "alias":
            self.note_body(name, parameters, last)
        else:
            above = self.line_above(parameters, last)
            if above is not None:
                self.lines[name] = (name, *above)

    def note_body(self, name, parameters, body):
        """Take in what follows from the body of an alias."""
        layout = laid_out(body)
        self.body_heads[name] = heads_of(self, layout)
        self.bodies[name] = (parameters, laid_out(expanded_note(self, {}, layout)[0]))
        self.weights[name] = weight_of(self.weights, parameters, layout)

    def line_above(self, parameters, base):
        """The core classes above a class with these parameters and this base,
        or None if it is no core class."""
        if parameters:
            return None
        return () if base is None else self.lines.get(base[0])
