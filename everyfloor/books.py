"""Books of named formulas and guards, with the row of their steps."""

from everyfloor.errors import BadLine, BadNumber, EveryfloorError, NoSteps
from everyfloor.integers import is_int_from
from everyfloor.pages import guard_of, lines_of_page, page_of, shelf_of
from everyfloor.shelves import (
    Shelf, kept_at, needed, parted, readings_of, with_entry, with_guard, with_name, without)


class Book:
    """Named formulas and tests that hold at every n. Each step leaves the shelf of before behind, to be taken back."""

    def __init__(self):
        self._shelf = Shelf({}, {})
        self._behind = []
        # Within an attempt only the steps beyond this number may be taken back.
        self._floor = 0
        self.names = ()
        self.guards = ()

    @classmethod
    def read(cls, page):
        """The book that the lines of the page tell."""
        entries, guards = lines_of_page(page)
        book = cls()
        if len(entries) > 0:
            book._do(shelf_of(entries))
        for number, line in enumerate(guards, start=len(entries) + 1):
            try:
                name, text = guard_of(line)
                book.guard(name, text)
            except EveryfloorError as why:
                raise BadLine(number, why)
        return book

    @property
    def page(self):
        """The lines that tell the entries and the guards."""
        return page_of(self._shelf)

    def put(self, name, text):
        """A step: the entry has this text from now on."""
        self._do(with_entry(self._shelf, name, text))

    def guard(self, name, text):
        """A step: the test with this text must hold at every n from now on."""
        self._do(with_guard(self._shelf, name, text))

    def drop(self, name):
        """A step: the entry or the guard goes."""
        self._do(without(self._shelf, name))

    def rename(self, name, new):
        """A step: the entry or the guard has the name new."""
        self._do(with_name(self._shelf, name, new))

    def undo(self):
        """Takes back the last step."""
        if len(self._behind) <= self._floor:
            raise NoSteps()
        self._show(self._behind[-1], self._behind[:-1])

    def past(self, k):
        """A new book, as this one was behind its first k steps."""
        if not is_int_from(k, 0) or k > len(self._behind):
            raise BadNumber(k)
        book = Book()
        book._show([*self._behind, self._shelf][k], self._behind[:k])
        return book

    def attempt(self, action):
        """Calls action with this book; its steps become one step, or none if it raises an exception."""
        shelf, behind, floor = self._shelf, self._behind, self._floor
        names, guards = self.names, self.guards
        is_done = None
        self._floor = len(behind)
        try:
            answer = action(self)
            is_done = True
        finally:
            self._floor = floor
            if is_done is None:
                self._shelf, self._behind, self.names, self.guards = shelf, behind, names, guards
        if len(self._behind) > len(behind):
            self._behind = [*behind, shelf]
        return answer

    def spelled(self, name):
        """The text of the entry or the guard, with the names in it."""
        return kept_at(self._shelf, name).reading.text

    def needs(self, name):
        """The ascending tuple of the names that the entry or the guard needs."""
        found = needed(kept_at(self._shelf, name).reading, readings_of(self._shelf.entries))
        return tuple(sorted([str(word) for word in found]))

    def moved(self, name, text):
        """The least n at which each entry would part from what it is now, by names, if the entry had this text."""
        return parted(self._shelf, with_entry(self._shelf, name, text))

    def __getitem__(self, at):
        return kept_at(self._shelf, at).meaning

    def __contains__(self, x):
        return isinstance(x, str) and (x in self._shelf.entries or x in self._shelf.guards)

    def __len__(self):
        return len(self._behind)

    def __iter__(self):
        raise TypeError("A book is not iterated over.")

    def __eq__(self, other):
        return isinstance(other, Book) and self.page == other.page

    def _do(self, shelf):
        """Does the step that leads to the shelf."""
        self._show(shelf, [*self._behind, self._shelf])

    def _show(self, shelf, behind):
        self._shelf = shelf
        self._behind = behind
        self.names = tuple(shelf.entries)
        self.guards = tuple(shelf.guards)
