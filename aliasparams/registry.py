"""Registries: books that change, and the changes, which can be undone."""

from aliasparams.books import Book
from aliasparams.errors import NoChange, NothingToUndo
from aliasparams.tables import table_of, touched_names


class Registry:
    """A book and the books before each change that is not reverted."""

    def __init__(self, book=None):
        self._book = Book() if book is None else book
        self._earlier = []

    def add(self, entry):
        """Put any value behind the entries. Raises NoBook."""
        return self._changed_to(self._book.with_entry(entry))

    def set_bound(self, name, bound):
        """Give a parameter another bound. Raises NoName, NoChange, NoBook."""
        kind = self._entry(name, "parameter")[2]
        return self._with_entry_for(name, ("parameter", name, kind, bound))

    def set_base(self, name, base):
        """Give a class another base. Raises NoName, NoChange, NoBook."""
        parameters = self._entry(name, "class")[2]
        return self._with_entry_for(name, ("class", name, parameters, base))

    def set_body(self, name, body):
        """Give an alias another body. Raises NoName, NoChange, NoBook."""
        parameters = self._entry(name, "alias")[2]
        return self._with_entry_for(name, ("alias", name, parameters, body))

    def drop(self, name):
        """Take an entry out. Raises NoName, NoBook."""
        self._book.entry(name)
        return self._changed_to(Book([entry for entry in self._book.entries() if entry[1] != name]))

    def undo(self):
        """Revert the last change that is not reverted. Raises NothingToUndo."""
        if not self._earlier:
            raise NothingToUndo()
        before = self._book
        self._book = self._earlier.pop()
        return touched_names(before.facts, self._book.facts)

    def table(self, name):
        """The table of the entry with this name. Raises NoName."""
        self._book.entry(name)
        return table_of(self._book.facts, name)

    def twin(self):
        """A registry with the same book and history."""
        found = Registry(self._book)
        found._earlier = list(self._earlier)
        return found

    @property
    def book(self):
        """The present book."""
        return self._book

    def __len__(self):
        return len(self._earlier)

    def __repr__(self):
        return f"Registry({len(self._book)} entries, {len(self._earlier)} changes)"

    def _entry(self, name, kind):
        """The entry with this name and first item. Raises NoName, NoChange."""
        entry = self._book.entry(name)
        if entry[0] != kind:
            raise NoChange(name)
        return entry

    def _with_entry_for(self, name, changed):
        """Put another entry in the place of the one with this name. Raises NoBook."""
        entries = [changed if entry[1] == name else entry for entry in self._book.entries()]
        return self._changed_to(Book(entries))

    def _changed_to(self, book):
        """Take another book, and tell the touched names."""
        touched = touched_names(self._book.facts, book.facts)
        self._earlier.append(self._book)
        self._book = book
        return touched
