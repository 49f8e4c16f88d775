"""Desks: logs on which entries are added, put in, changed and removed, and all of this undone."""

from seenrules.changes import check_changes, fewest, fits, ranges
from seenrules.errors import NothingToRedo, NothingToUndo, TooMany
from seenrules.kinds import check_kind
from seenrules.logs import Log
from seenrules.moments import verdict_at

MOST_ON_DESK = 16


def check_desk_room(log):
    """Raise TooMany for a log with more entries than a desk has."""
    if len(log) > MOST_ON_DESK:
        raise TooMany(len(log))


class Trial:
    """A block; if an exception ends it, a desk gets back what it had when the block began."""

    def __init__(self, desk):
        self.own_desk = desk
        self.kept = desk.held

    def __enter__(self):
        self.kept = self.own_desk.held
        return self

    def __exit__(self, kind, value, trace):
        if kind is not None:
            self.own_desk.held = self.kept


class Desk:
    """Entries of a kind whose rules may have been changed, and the deeds that they came from.

    What is held is a tuple of the log of the entries, the deeds in force, and the undone
    deeds, the last one at the end; with each deed stands the log that taking it back, or
    doing it again, brings back. No part of it is ever changed, so a block can keep it.
    """

    def __init__(self, kind, *, changes=0):
        check_kind(kind)
        check_changes(changes)
        self.own_kind = kind
        self.own_changes = changes
        self.held = (Log(kind), (), ())

    @property
    def kind(self):
        """The kind of the entries."""
        return self.own_kind

    @property
    def changes(self):
        """How often at most the rules may have been changed."""
        return self.own_changes

    def __len__(self):
        return len(self.held[0])

    def log(self):
        """Return the log of the entries."""
        return self.held[0]

    def __eq__(self, other):
        # Equal logs are of equal kinds.
        return isinstance(other, Desk) and self.own_changes == other.own_changes and self.held[0] == other.held[0]

    def add(self, case, answer):
        """Append an entry and return its index."""
        index = len(self.held[0])
        log = self.held[0].inserted(index, case, answer)
        check_desk_room(log)
        self.hold(log, ("add", case, answer))
        return index

    def put(self, at, case, answer):
        """Insert an entry, which gets the index at."""
        log = self.held[0].inserted(at, case, answer)
        check_desk_room(log)
        self.hold(log, ("put", at, case, answer))

    def change(self, index, answer):
        """Replace the answer of an entry and return the earlier one."""
        before = self.held[0]
        self.hold(before.replaced(index, answer), ("change", index, answer))
        return before[index][1]

    def remove(self, index):
        """Remove an entry and return it."""
        before = self.held[0]
        self.hold(before.without(index), ("remove", index))
        return before[index]

    def hold(self, log, deed):
        """Take over the log that a new deed makes, and forget the undone deeds."""
        before, deeds, undone = self.held
        self.held = (log, (*deeds, (deed, before)), ())

    def deeds(self):
        """Return the list of the deeds in force, in order."""
        return [deed for deed, before in self.held[1]]

    def undo(self):
        """Take back the last deed in force and return it."""
        log, deeds, undone = self.held
        if len(deeds) == 0:
            raise NothingToUndo()
        deed, before = deeds[-1]
        self.held = (before, deeds[:-1], (*undone, (deed, log)))
        return deed

    def redo(self):
        """Do the deed again that was undone last, and return it."""
        log, deeds, undone = self.held
        if len(undone) == 0:
            raise NothingToRedo()
        deed, after = undone[-1]
        self.held = (after, (*deeds, (deed, log)), undone[:-1])
        return deed

    def trial(self):
        """Return an object for one with block, at whose end by an exception the desk is as at its beginning."""
        return Trial(self)

    def in_trial(self, work):
        """Call a function in such a block and return its result."""
        with self.trial():
            return work()

    def verdict(self, case, *, at=None):
        """Return what verdict_at returns for the entries, at the end if no moment is given."""
        moment = len(self.held[0]) if at is None else at
        return verdict_at(self.held[0], moment, case, changes=self.own_changes)

    def fits(self):
        """Return what the function fits returns for the entries and the desk's changes."""
        return fits(self.held[0], changes=self.own_changes)

    def fewest(self):
        """Return what the function fewest returns for the entries."""
        return fewest(self.held[0])

    def ranges(self):
        """Return what the function ranges returns for the entries."""
        return ranges(self.held[0])

    def copied(self):
        """Return a desk with the same kind, changes, entries and deeds, undone ones included."""
        desk = Desk(self.own_kind, changes=self.own_changes)
        desk.held = self.held
        return desk
