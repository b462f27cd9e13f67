"""Books: the entries that declare parameters, classes and aliases."""

from aliasparams.entries import is_entry
from aliasparams.errors import NoBook, NoName
from aliasparams.facts import Facts
from aliasparams.names import is_name

_MOST_ENTRIES = 20


class Book:
    """Entries with different names, each of which uses only those before it."""

    def __init__(self, entries=()):
        if not isinstance(entries, (list, tuple)) or len(entries) > _MOST_ENTRIES:
            raise NoBook(-1)
        self.facts = Facts()
        for position, entry in enumerate(entries):
            if not is_entry(self.facts, entry):
                raise NoBook(position)
            self.facts.note(entry)
        self._entries = tuple(entries)

    def entries(self):
        """The list of the entries."""
        return list(self._entries)

    def names(self, *kinds):
        """The names of all entries, or of those with one of these first items."""
        return [entry[1] for entry in self._entries if not kinds or entry[0] in kinds]

    def entry(self, name):
        """The entry with this name. Raises NoName for any other value."""
        if name not in self:
            raise NoName(name)
        return self.facts.by_name[name]

    def core(self):
        """The ascending list of the core classes."""
        return sorted(list(self.facts.lines))

    def with_entry(self, entry):
        """The book with any value as one more entry. Raises NoBook."""
        return Book([*self._entries, entry])

    def __eq__(self, other):
        return isinstance(other, Book) and self._entries == other._entries

    def __len__(self):
        return len(self._entries)

    def __contains__(self, name):
        return is_name(name) and name in self.facts.by_name

    def __repr__(self):
        return f"Book({len(self._entries)} entries)"
