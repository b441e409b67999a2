"""Desks: tasks, their handles and marks, the locks that they hold and the asks that wait."""

from lockstretch.checks import (
    ask_entry, check_by, check_file, check_kind, check_stretch, check_task, check_word, mark_of, opened_mark,
)
from lockstretch.claims import (
    ask_of, blocking_asks, blocking_locks, first_blocker, lock_rows, told_asks, told_locks, told_whole,
)
from lockstretch.deeds import do_deed, ending_order
from lockstretch.errors import LockError, NoBack
from lockstretch.lots import meets
from lockstretch.tables import Tables


class Desk:
    """Files on which tasks hold locks; the deeds can be taken back and done again."""

    def __init__(self, files, *, fair=False):
        self.files = files
        self.fair = fair
        self.tables = Tables(files, fair)
        # Deeds done: (word, values, how many changes the tables had ahead of it).
        self.past = []
        # Deeds that can be done again, (word, values), the next one last.
        self.future = []

    def perform(self, word, values):
        """The deed is done and kept among those done; a refused one leaves no trace."""
        start = len(self.tables.changes)
        try:
            told = do_deed(self.tables, word, values)
        except LockError:
            self.tables.undo_to(start)
            raise
        self.past.append((word, values, start))
        return told

    def do(self, word, values):
        """A deed of this word and all its values is done; nothing can be done again then."""
        told = self.perform(word, values)
        self.future = []
        return told

    def begin(self):
        """A new task; its number is told."""
        return self.do("begin", ())

    def attach(self, task, file, *, mode="both"):
        """A new handle of the task leads to a new mark of the file; the handle is told."""
        return self.do("attach", (task, file, mode))

    def dup(self, task, handle, *, at=None):
        """Another handle, or this one, leads to the same mark; it is told."""
        return self.do("dup", (task, handle, at))

    def close(self, task, handle):
        """The handle leads to nothing."""
        self.do("close", (task, handle))

    def fork(self, task):
        """A new task with the same handles; its number is told."""
        return self.do("fork", (task,))

    def end(self, task):
        """The task closes all its handles and is no task any more."""
        self.do("end", (task,))

    def lock(self, task, handle, kind, stretch, *, by="task", wait=False):
        """The lock is had, and None told; or it is an ask, and its number told."""
        return self.do("lock", (task, handle, kind, stretch, by, wait))

    def unlock(self, task, handle, stretch, *, by="task"):
        """The cells of the stretch have no lock of the holder."""
        self.do("unlock", (task, handle, stretch, by))

    def cancel(self, task):
        """The task's ask is given up."""
        self.do("cancel", (task,))

    def lock_whole(self, task, handle, kind, *, wait=False):
        """The mark has the whole lock, and None is told; or it is an ask, and its number told."""
        return self.do("lock_whole", (task, handle, kind, wait))

    def unlock_whole(self, task, handle):
        """The mark has no whole lock."""
        self.do("unlock_whole", (task, handle))

    def tasks(self):
        """The numbers of all tasks, rising."""
        return tuple(sorted(self.tables.leads))

    def handles(self, task):
        """The task's (handle, mark), rising."""
        check_task(self.tables, task)
        return self.tables.leads[task]

    def mark(self, number):
        """The mark's (file, mode, tasks)."""
        return opened_mark(self.tables, number)

    def is_asleep(self, task):
        """Whether the task waits."""
        check_task(self.tables, task)
        return task in self.tables.asleep

    def probe(self, task, handle, kind, stretch, *, by="task"):
        """What would block this lock first; None, if nothing does."""
        mark = mark_of(self.tables, task, handle)
        check_kind(kind)
        check_by(by)
        check_stretch(stretch)
        return first_blocker(self.tables, ask_of(self.tables, task, mark, kind, stretch, by))

    def locks(self, file):
        """The file's locks on stretches, (first, end, kind, by, number), rising."""
        check_file(self.tables, file)
        return told_locks(self.tables, file)

    def whole_locks(self, file):
        """The file's whole locks, (mark, kind), rising."""
        check_file(self.tables, file)
        return told_whole(self.tables, file)

    def may(self, task, handle, word, stretch):
        """Whether the task may read, or write, the stretch by this handle."""
        mark = mark_of(self.tables, task, handle)
        check_word(word)
        check_stretch(stretch)
        file, mode, users = self.tables.opened[mark]
        if mode not in (word, "both"):
            return False
        for first, end, kind, by, number in lock_rows(self.tables, file):
            own = (by, number) in (("task", task), ("mark", mark))
            if not own and (kind == "alone" or word == "write") and meets((first, end), stretch):
                return False
        return True

    def asks(self):
        """All asks that wait, the elder ahead."""
        return told_asks(self.tables)

    def outcome(self, number):
        """What came of the ask."""
        return ask_entry(self.tables.outcomes, number)

    def why(self, number):
        """All that blocks an ask that waits: locks, then the numbers of elder asks."""
        ask = ask_entry(self.tables.waiting, number)
        return tuple(blocking_locks(self.tables, ask) + blocking_asks(self.tables, ask))

    def ending(self):
        """All tasks in an order in which they can end."""
        return ending_order(self.tables)

    def deeds(self):
        """The deeds done and not taken back, (word, values), in order."""
        return tuple([(word, values) for word, values, start in self.past])

    def undone(self):
        """The deeds that can be done again, (word, values), the next one first."""
        return tuple(self.future[::-1])

    def back(self):
        """The last deed is taken back; its word is told."""
        if not self.past:
            raise NoBack("there is no deed to take back")
        word, values, start = self.past.pop()
        self.tables.undo_to(start)
        self.future.append((word, values))
        return word

    def again(self):
        """The deed that was taken back last is done again; its word is told."""
        if not self.future:
            raise NoBack("there is no deed to do again")
        word, values = self.future.pop()
        self.perform(word, values)
        return word

    def counts(self):
        """How many deeds can be taken back, and done again."""
        return (len(self.past), len(self.future))

    def many_locks(self):
        """How many locks there are on all files, those on stretches and whole ones."""
        return sum([len(self.locks(file)) + len(self.whole_locks(file)) for file in self.files])

    def __eq__(self, thing):
        if not isinstance(thing, Desk):
            return False
        if self.files != thing.files or self.fair != thing.fair:
            return False
        return self.deeds() == thing.deeds() and self.undone() == thing.undone()

    def __len__(self):
        return len(self.tables.leads)

    def __str__(self):
        return f"{len(self)} tasks, {self.many_locks()} locks, {len(self.asks())} asks"
