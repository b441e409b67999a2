"""What a desk keeps: tables of plain values, and the row of all their changes.

Every change goes through put and drop, which note what was there ahead of it; so whatever was
done since a place in that row can be taken back, be it a deed, a refused one, or a trial.
"""


class Tables:
    """The tables of one desk; what they hold is never None, and is replaced, not changed."""

    def __init__(self, files, fair):
        self.files = files
        self.fair = fair
        # How many numbers of each sort are given: the next one is that number.
        self.given = {"task": 0, "mark": 0, "ask": 0}
        # Task: its pairs (handle, mark), rising.
        self.leads = {}
        # Mark: (file, mode, tasks), the tasks rising that have a handle to it.
        self.opened = {}
        # File: a table from holder to (shared lot, alone lot), where one of them has a cell.
        self.held = {file: {} for file in files}
        # File: a table from mark to the kind of its whole lock.
        self.whole = {file: {} for file in files}
        # Ask that waits, by its number; the number of its ask, by the task; outcome, by the ask's number.
        self.waiting = {}
        self.asleep = {}
        self.outcomes = {}
        self.changes = []

    def put(self, table, key, value):
        """The table has the value at the key."""
        self.changes.append((table, key, table.get(key)))
        table[key] = value

    def drop(self, table, key):
        """The table has nothing at the key, where it may have had something."""
        if key in table:
            self.changes.append((table, key, table[key]))
            del table[key]

    def undo_to(self, many):
        """All changes but the first so many are taken back, the last one first."""
        while len(self.changes) > many:
            table, key, value = self.changes.pop()
            if value is None:
                del table[key]
            else:
                table[key] = value

    def fresh(self, sort):
        """A number of this sort that was not given yet."""
        number = self.given[sort]
        self.put(self.given, sort, number + 1)
        return number
