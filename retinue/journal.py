"""Journals: the wakings of one standing, which can be undone and redone."""

from retinue.errors import NothingToRedo, NothingToUndo
from retinue.tally import tally_of
from retinue.waking import changed, check_rest, run_order, unwind


class Journal:
    """The wakings of one standing.

    An entry is a pair of tuples, the handful and its changes. The lists of
    entries are never changed, only replaced: who goes through one is not
    disturbed by a waking.
    """

    def __init__(self, start):
        self.start = start
        self.now = start
        self.entries = []
        self.undone = []
        self.busy = False

    def __len__(self):
        return len(self.entries)

    def __iter__(self):
        return iter(self.entries)

    def wake(self, handful):
        """Let the handful wake and return its changes."""
        end, log = run_order(self.now, [handful])
        self._add(end, log)
        return log[0][1]

    def _add(self, end, log):
        """Add the entries of the log that change something, which lead to this end; return their number."""
        added = [(handful, tuple(changes)) for handful, changes in log if len(changes) > 0]
        if len(added) > 0:
            self.now = end
            self.entries = self.entries + added
            self.undone = []
        return len(added)

    def undo(self):
        """Take the last entry that stands back and return its changes."""
        if len(self.entries) == 0:
            raise NothingToUndo()
        entry = self.entries[-1]
        self.now = unwind(self.now, [entry])
        self.entries = self.entries[:-1]
        self.undone = self.undone + [entry]
        return list(entry[1])

    def redo(self):
        """Let the entry that was undone last stand again and return its changes."""
        if len(self.undone) == 0:
            raise NothingToRedo()
        entry = self.undone[-1]
        self.now = changed(self.now, entry[1])
        self.entries = self.entries + [entry]
        self.undone = self.undone[:-1]
        return list(entry[1])

    def tallies(self):
        """Return the list of the tallies of the start and after each entry that stands."""
        now = self.start
        paper = [tally_of(now)]
        for _, changes in self.entries:
            now = changed(now, changes)
            paper.append(tally_of(now))
        return paper

    def perform(self, order, *, to_rest=False):
        """Let the handfuls of the order wake one after another and return the number of entries that are added."""
        self.busy = True
        try:
            # The journal takes the end over only when nothing can go wrong any more.
            end, log = run_order(self.now, order)
            if to_rest:
                check_rest(end)
            return self._add(end, log)
        finally:
            self.busy = False

    def history(self):
        """Return the entries that stand as a log."""
        return [(handful, list(changes)) for handful, changes in self.entries]


def copy_of(journal):
    """Return a journal with the same entries; later wakings of one do not touch the other."""
    twin = Journal(journal.start)
    twin.now = journal.now
    twin.entries = list(journal.entries)
    twin.undone = list(journal.undone)
    return twin
