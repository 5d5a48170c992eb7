"""Desks: writing to a book's views by their rules, undoing, and keeping views as they are."""

from shownwrites.errors import NotShown
from shownwrites.puts import put
from shownwrites.refusals import Kept, NoName, NoRule, NotKept, NothingToRedo, NothingToUndo, WrongStore
from shownwrites.stores import Store
from shownwrites.sums import COUNT
from shownwrites.views import View
from shownwrites.writes import Add, Change, Clear, Drop, Total, wanted


class Desk:
    """A book, a store with its tables, and the history of the edits of the store."""

    def __init__(self, book, store=None):
        empty = Store(book.tables)
        if store is not None and store.tables != empty.tables:
            raise WrongStore()
        self.book = book
        self.store = empty if store is None else store
        self.kept = ()
        # Each is None or a pair of the edit that comes next and all that come behind it.
        self._done = None
        self._undone = None

    def put(self, name, write):
        """Put the write to a shown view by its rules; the edit that does it."""
        shown = self.book.view_of(name)
        rules = self.book.rules_of(name)
        if rules is None:
            wanted(shown, self.store, write)
            raise NoRule(write.kind)
        edit = put(rules, self.store, write)
        self.apply(edit)
        return edit

    def apply(self, edit):
        """Change the store by the edit."""
        self._change(edit)
        self._done = (edit, self._done)
        self._undone = None

    def undo(self):
        """Take back the last edit that is not taken back; the edit that does so."""
        if self._done is None:
            raise NothingToUndo()
        edit, earlier = self._done
        back = -edit
        self._change(back)
        self._done = earlier
        self._undone = (edit, self._undone)
        return back

    def redo(self):
        """Do the edit again that was taken back last; this edit."""
        if self._undone is None:
            raise NothingToRedo()
        edit, later = self._undone
        self._change(edit)
        self._done = (edit, self._done)
        self._undone = later
        return edit

    def _change(self, edit):
        """Change the store by the edit, if no kept view changes."""
        after = self.store + edit
        for name in self.kept:
            shown = self.book.view_of(name)
            if shown.rows(after) != shown.rows(self.store):
                raise Kept(name)
        self.store = after

    def keep(self, name):
        """Refuse from now on whatever changes the rows of this view."""
        self.book.view_of(name)
        if name not in self.kept:
            self.kept = (*self.kept, name)

    def release(self, name):
        """Let the rows of this view change again."""
        self.book.view_of(name)
        if name not in self.kept:
            raise NotKept(name)
        self.kept = tuple([other for other in self.kept if other != name])

    def attempt(self, action):
        """What the action returns that is called with the desk; all is as before if it fails."""
        store, kept, done, undone = (self.store, self.kept, self._done, self._undone)
        ended = None
        try:
            result = action(self)
            ended = True
        finally:
            if ended is None:
                self.store, self.kept = store, kept
                self._done, self._undone = done, undone
        return result

    def sheet(self, name):
        """A handle for the shown view of this name."""
        return Sheet(self, name)

    def rows_of(self, name):
        """The rows of the shown view of this name."""
        return self.book.view_of(name).rows(self.store)


class Sheet:
    """A handle for one shown view of a desk."""

    def __init__(self, desk, name):
        self.desk = desk
        self.name = name
        self._shown = desk.book.view_of(name)

    def __iadd__(self, other):
        self.desk.put(self.name, Add(other))
        return self

    def __isub__(self, other):
        self.desk.put(self.name, Drop(other) if isinstance(self._shown, View) else Clear(other))
        return self

    def __setitem__(self, at, worth):
        row, name = at
        of_view = isinstance(self._shown, View)
        self.desk.put(self.name, Change(row, name, worth) if of_view else Total(row, name, worth))

    def __getitem__(self, at):
        row, name = at
        numbers = self._numbers(row)
        if name not in numbers:
            raise NoName(name)
        return numbers[name]

    def __contains__(self, x):
        rows = self.listed()
        return x in rows if isinstance(self._shown, View) else x in [group for group, _, _ in rows]

    def __len__(self):
        return len(self.listed())

    def __iter__(self):
        raise TypeError("a sheet is not iterated over: take its listed rows")

    def listed(self):
        """The rows as the shown view gives them."""
        return self.desk.rows_of(self.name)

    def _numbers(self, row):
        """The numbers by their names that are shown for the row or the group."""
        for found in self.listed():
            if isinstance(self._shown, View):
                if found == row:
                    return dict(zip(self._shown.names, found))
            elif found[0] == row:
                return {COUNT: found[1], **dict(zip(self._shown.total_names, found[2]))}
        raise NotShown(row)
