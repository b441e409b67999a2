"""A desk kept as plain tables of cells, against which the program is held.

WIDTH cells of each file are told one by one; the last of them stands for all that lie behind. Nothing here
uses the program's own lots or desks: each answer is found by walking cells, tasks and asks, and what was
done is taken back by keeping a copy of all tables from ahead of each deed.
"""

import copy

WIDTH = 7
KINDS = ("shared", "alone")
MODES = ("read", "write", "both")


class Refused(Exception):
    def __init__(self, name, blocker=None):
        super().__init__(name)
        self.name = name
        self.blocker = blocker


def cells_of(stretch):
    first, end = stretch
    return set(range(first, WIDTH if end is None else end))


def stretches_of(cells):
    """The longest stretches of these cells, rising."""
    rows = []
    for cell in range(WIDTH):
        if cell in cells and cell - 1 not in cells:
            behind = cell
            while behind in cells:
                behind += 1
            rows.append((cell, None if behind == WIDTH else behind))
    return rows


def is_stretch(thing):
    if type(thing) is not tuple or len(thing) != 2 or type(thing[0]) is not int or thing[0] < 0:
        return False
    return thing[1] is None or (type(thing[1]) is int and thing[1] > thing[0])


class PlainTables:
    """All that is kept, so that one copy keeps it all."""

    def __init__(self, files):
        self.tasks = {}
        self.modes = {}
        self.places = {}
        self.cells = {file: [{} for cell in range(WIDTH)] for file in files}
        self.wholes = {file: {} for file in files}
        self.waiting = []
        self.outcomes = []
        self.many_tasks = 0
        self.many_marks = 0


class PlainDesk:
    def __init__(self, files, fair):
        self.files = files
        self.fair = fair
        self.now = PlainTables(files)
        self.past = []
        self.future = []
        self.given_up = 0

    # Deeds

    def do(self, word, values):
        """What the deed tells; Refused, with nothing changed, if it is refused."""
        ahead = copy.deepcopy(self.now)
        try:
            told = getattr(self, "do_" + word)(*values)
        except Refused:
            self.now = ahead
            raise
        self.settle()
        self.past.append((word, values, ahead))
        self.future = []
        return told

    def back(self):
        if not self.past:
            raise Refused("NoBack")
        word, values, ahead = self.past.pop()
        self.future.append((word, values, self.now))
        self.now = ahead
        return word

    def again(self):
        if not self.future:
            raise Refused("NoBack")
        word, values, behind = self.future.pop()
        self.past.append((word, values, self.now))
        self.now = behind
        return word

    def do_begin(self):
        self.now.tasks[self.now.many_tasks] = {}
        self.now.many_tasks += 1
        return self.now.many_tasks - 1

    def do_attach(self, task, file, mode):
        self.check(task)
        if mode not in MODES:
            raise Refused("BadMode")
        if file not in self.files:
            raise Refused("NoFile")
        mark = self.now.many_marks
        self.now.many_marks += 1
        self.now.modes[mark] = mode
        self.now.places[mark] = file
        handle = self.least_handle(task)
        self.now.tasks[task][handle] = mark
        return handle

    def do_dup(self, task, handle, at):
        self.check(task, handle)
        if at == handle:
            return handle
        mark = self.now.tasks[task][handle]
        if at is None:
            at = self.least_handle(task)
        if at in self.now.tasks[task]:
            self.close_one(task, at)
        self.now.tasks[task][at] = mark
        return at

    def do_close(self, task, handle):
        self.check(task, handle)
        self.close_one(task, handle)

    def do_fork(self, task):
        self.check(task)
        child = self.do_begin()
        self.now.tasks[child] = dict(self.now.tasks[task])
        return child

    def do_end(self, task):
        if task not in self.now.tasks:
            raise Refused("NoTask")
        for ask in list(self.now.waiting):
            if ask[1] == task:
                self.wake(ask, "ended")
        for handle in sorted(self.now.tasks[task]):
            self.close_one(task, handle)
        del self.now.tasks[task]

    def do_lock(self, task, handle, kind, stretch, by, wait):
        self.check(task, handle)
        self.check_lock(kind, stretch, by)
        mark = self.now.tasks[task][handle]
        if (kind, self.now.modes[mark]) in (("shared", "write"), ("alone", "read")):
            raise Refused("BadMode")
        return self.have_or_wait(self.ask_of(task, mark, kind, stretch, by), wait)

    def do_unlock(self, task, handle, stretch, by):
        self.check(task, handle)
        self.check_lock("shared", stretch, by)
        mark = self.now.tasks[task][handle]
        holder = (by, task if by == "task" else mark)
        for cell in cells_of(stretch):
            self.now.cells[self.now.places[mark]][cell].pop(holder, None)

    def do_cancel(self, task):
        if task not in self.now.tasks:
            raise Refused("NoTask")
        if not self.sleeps(task):
            raise Refused("Awake")
        for ask in list(self.now.waiting):
            if ask[1] == task:
                self.wake(ask, "cancelled")

    def do_lock_whole(self, task, handle, kind, wait):
        self.check(task, handle)
        if kind not in KINDS:
            raise Refused("BadKind")
        mark = self.now.tasks[task][handle]
        return self.have_or_wait(self.ask_of(task, mark, kind, None, "mark"), wait)

    def do_unlock_whole(self, task, handle):
        self.check(task, handle)
        mark = self.now.tasks[task][handle]
        self.now.wholes[self.now.places[mark]].pop(mark, None)

    # What the deeds need

    def check(self, task, handle=None, asleep=False):
        if task not in self.now.tasks:
            raise Refused("NoTask")
        if self.sleeps(task) and not asleep:
            raise Refused("Asleep")
        if handle is not None and handle not in self.now.tasks[task]:
            raise Refused("NoHandle")

    def check_lock(self, kind, stretch, by):
        if kind not in KINDS or by not in ("task", "mark"):
            raise Refused("BadKind")
        if not is_stretch(stretch):
            raise Refused("BadStretch")

    def sleeps(self, task):
        return any(ask[1] == task for ask in self.now.waiting)

    def least_handle(self, task):
        return min(set(range(len(self.now.tasks[task]) + 1)) - set(self.now.tasks[task]))

    def users(self, mark):
        return tuple(sorted(task for task in self.now.tasks if mark in self.now.tasks[task].values()))

    def close_one(self, task, handle):
        mark = self.now.tasks[task].pop(handle)
        file = self.now.places[mark]
        gone = [("task", task)]
        if not self.users(mark):
            gone.append(("mark", mark))
            self.now.wholes[file].pop(mark, None)
        for held in self.now.cells[file]:
            for holder in gone:
                held.pop(holder, None)

    def ask_of(self, task, mark, kind, stretch, by):
        holder = task if by == "task" else mark
        return (len(self.now.outcomes), task, self.now.places[mark], kind, stretch, by, holder)

    def have_or_wait(self, ask, wait):
        blockers = self.lock_blockers(ask) + self.ask_blockers(ask, self.now.waiting)
        if not blockers:
            self.have(ask)
            return None
        if not wait:
            raise Refused("Held", blockers[0])
        if ask[4] is None:
            self.now.wholes[ask[2]].pop(ask[6], None)
        self.now.waiting.append(ask)
        self.now.outcomes.append("waits")
        if ask in self.stuck():
            raise Refused("Stuck")
        return ask[0]

    def have(self, ask):
        number, task, file, kind, stretch, by, holder = ask
        if stretch is None:
            self.now.wholes[file][holder] = kind
            return
        for cell in cells_of(stretch):
            self.now.cells[file][cell][(by, holder)] = kind

    def wake(self, ask, outcome):
        self.now.waiting.remove(ask)
        self.now.outcomes[ask[0]] = outcome

    # What blocks

    def lock_blockers(self, ask):
        number, task, file, kind, stretch, by, holder = ask
        if stretch is None:
            return [row for row in self.whole_locks(file) if row[0] != holder and "alone" in (kind, row[1])]
        return [
            row for row in self.locks(file)
            if row[3:] != (by, holder) and "alone" in (kind, row[2]) and cells_of(row[:2]) & cells_of(stretch)
        ]

    def ask_blockers(self, ask, asks):
        if not self.fair:
            return []
        return [other for other in asks if other[0] < ask[0] and self.asks_clash(ask, other)]

    def asks_clash(self, one, other):
        if one[2] != other[2] or one[5:] == other[5:] or "alone" not in (one[3], other[3]):
            return False
        if one[4] is None or other[4] is None:
            return one[4] is None and other[4] is None
        return bool(cells_of(one[4]) & cells_of(other[4]))

    def blockers(self, ask):
        return self.lock_blockers(ask) + self.ask_blockers(ask, self.now.waiting)

    def who_could(self, blocker):
        """The tasks of which one free one is enough to make the blocker go."""
        if len(blocker) == 7:
            return {blocker[1]}
        if len(blocker) == 2:
            return set(self.users(blocker[0]))
        return {blocker[4]} if blocker[3] == "task" else set(self.users(blocker[4]))

    def stuck(self):
        """The greatest set of asks of which each has a blocker that these asks' tasks alone could make go."""
        caught = list(self.now.waiting)
        while True:
            tasks = {ask[1] for ask in caught}
            left = [ask for ask in caught if any(self.who_could(row) <= tasks for row in self.blockers(ask))]
            if left == caught:
                return caught
            caught = left

    def settle(self):
        while self.stuck():
            self.wake(self.stuck()[-1], "stuck")
            self.given_up += 1
        while True:
            ready = [ask for ask in self.now.waiting if not self.blockers(ask)]
            if not ready:
                return
            self.have(ready[0])
            self.wake(ready[0], "granted")

    # What is told

    def locks(self, file):
        rows = []
        for holder in {holder for held in self.now.cells[file] for holder in held}:
            for kind in KINDS:
                cells = {cell for cell in range(WIDTH) if self.now.cells[file][cell].get(holder) == kind}
                rows.extend(stretch + (kind,) + holder for stretch in stretches_of(cells))
        return tuple(sorted(rows, key=lambda row: (row[0], WIDTH if row[1] is None else row[1], row[2:])))

    def whole_locks(self, file):
        return tuple(sorted(self.now.wholes[file].items()))

    def handles(self, task):
        return tuple(sorted(self.now.tasks[task].items()))

    def mark(self, number):
        users = self.users(number)
        if not users:
            raise Refused("NoMark")
        return (self.now.places[number], self.now.modes[number], users)

    def why(self, number):
        for ask in self.now.waiting:
            if ask[0] == number:
                return tuple(row[0] if len(row) == 7 else row for row in self.blockers(ask))
        raise Refused("NoAsk")

    def probe(self, task, handle, kind, stretch, by):
        self.check(task, handle, asleep=True)
        self.check_lock(kind, stretch, by)
        found = self.blockers(self.ask_of(task, self.now.tasks[task][handle], kind, stretch, by))
        return found[0] if found else None

    def may(self, task, handle, word, stretch):
        self.check(task, handle, asleep=True)
        if word not in ("read", "write"):
            raise Refused("BadKind")
        if not is_stretch(stretch):
            raise Refused("BadStretch")
        mark = self.now.tasks[task][handle]
        if self.now.modes[mark] not in (word, "both"):
            return False
        for cell in cells_of(stretch):
            for holder, kind in self.now.cells[self.now.places[mark]][cell].items():
                if holder not in (("task", task), ("mark", mark)) and (kind == "alone" or word == "write"):
                    return False
        return True

    def ending(self):
        trial = PlainDesk(self.files, self.fair)
        trial.now = copy.deepcopy(self.now)
        order = []
        while trial.now.tasks:
            awake = [task for task in trial.now.tasks if not trial.sleeps(task)]
            order.append(min(awake))
            trial.do("end", (min(awake),))
        return tuple(order)

    def text(self):
        many = sum(len(self.locks(file)) + len(self.whole_locks(file)) for file in self.files)
        return f"{len(self.now.tasks)} tasks, {many} locks, {len(self.now.waiting)} asks"

    def deeds(self):
        return tuple((word, values) for word, values, ahead in self.past)
