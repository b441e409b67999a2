"""Rows of deeds drawn at random, done by the program and by the plain desk beside it."""

import random

from lockstretch import errors
from lockstretch.desks import Desk
from plain_desk import KINDS, MODES, WIDTH, PlainDesk, Refused

# Of each deed: which of its values are handed in by name alone.
NAMED = {
    "begin": (), "attach": ("mode",), "dup": ("at",), "close": (), "fork": (), "end": (),
    "lock": ("by", "wait"), "unlock": ("by",), "cancel": (), "lock_whole": ("wait",), "unlock_whole": (),
}
# How often each word is drawn.
WEIGHTS = {
    "begin": 2, "attach": 6, "dup": 5, "close": 6, "fork": 5, "end": 2, "lock": 40, "unlock": 6,
    "cancel": 2, "lock_whole": 9, "unlock_whole": 2, "back": 4, "again": 3,
}
BAD_STRETCHES = (
    (3, 3), (4, 2), (-1, 2), [0, 1], (0,), (0, 1, 2), None, (True, 3), (0, True), ("0", 1), "0..1", 5, (None, 3),
)


def call(desk, word, values):
    """The deed of the program's desk, its last values handed in by name where they must be."""
    named = NAMED[word]
    plain = values[:len(values) - len(named)]
    return getattr(desk, word)(*plain, **dict(zip(named, values[len(plain):])))


def answer_of(deed):
    """("told", value), or ("refused", name, blocker)."""
    try:
        return ("told", deed())
    except errors.LockError as error:
        return ("refused", type(error).__name__, getattr(error, "blocker", None))
    except Refused as error:
        return ("refused", error.name, error.blocker)


class Draw:
    """Draws values that are mostly right for the plain desk as it is now."""

    def __init__(self, seed, desk, wrong):
        self.dice = random.Random(seed)
        self.desk = desk
        self.wrong = wrong

    def is_wrong(self):
        return self.dice.random() < self.wrong

    def word(self):
        now = self.desk.now
        if len(now.tasks) < 2:
            return "begin"
        if len(now.tasks) > 6 and self.dice.random() < 0.3:
            return "end"
        if not self.ready() and self.dice.random() < 0.7:
            return "attach"
        if self.desk.future and self.dice.random() < 0.5:
            return self.dice.choice(("back", "again", "again"))
        return self.dice.choices(list(WEIGHTS), list(WEIGHTS.values()))[0]

    def asleep(self):
        return sorted(ask[1] for ask in self.desk.now.waiting)

    def ready(self):
        """Tasks that are awake and have handles."""
        now = self.desk.now
        return sorted(task for task in now.tasks if now.tasks[task] and task not in self.asleep())

    def task(self, word):
        now = self.desk.now
        if self.is_wrong():
            return self.dice.choice([-1, now.many_tasks, now.many_tasks + 3] + list(range(now.many_tasks)))
        if word == "cancel" and self.asleep():
            return self.dice.choice(self.asleep())
        awake = sorted(set(now.tasks) - set(self.asleep()))
        if word == "attach" and awake:
            return min(awake, key=lambda task: len(now.tasks[task]))
        if word != "end" and self.ready():
            return self.dice.choice(self.ready())
        return self.dice.choice(sorted(now.tasks)) if now.tasks else 0

    def handle(self, task):
        handles = sorted(self.desk.now.tasks.get(task, {}))
        if self.is_wrong() or not handles:
            return self.dice.choice((-1, 0, 1, 2, 7))
        return self.dice.choice(handles)

    def at(self):
        return self.dice.choice((None, None, 0, 1, 2, 3, 9))

    def file(self):
        return self.dice.choice(("none", "", "A")) if self.is_wrong() else self.dice.choice(self.desk.files)

    def mode(self):
        if self.is_wrong():
            return self.dice.choice(("shared", "", "BOTH"))
        return self.dice.choice(MODES + ("both",) * 5)

    def kind(self):
        return self.dice.choice(("read", "", "Alone")) if self.is_wrong() else self.dice.choice(KINDS)

    def by(self):
        return self.dice.choice(("file", "")) if self.is_wrong() else self.dice.choice(("task", "mark"))

    def may_word(self):
        return self.dice.choice(("both", "alone")) if self.is_wrong() else self.dice.choice(("read", "write"))

    def wait(self):
        return self.dice.random() < 0.65

    def stretch(self):
        if self.is_wrong():
            return self.dice.choice(BAD_STRETCHES)
        first = self.dice.randrange(WIDTH)
        ends = list(range(first + 1, min(first + 4, WIDTH))) + [None]
        return (first, self.dice.choice(ends))

    def values(self, word):
        if word == "begin":
            return ()
        task = self.task(word)
        if word in ("fork", "end", "cancel"):
            return (task,)
        if word == "attach":
            return (task, self.file(), self.mode())
        handle = self.handle(task)
        return (task, handle) + {
            "dup": lambda: (self.at(),),
            "close": lambda: (),
            "lock": lambda: (self.kind(), self.stretch(), self.by(), self.wait()),
            "unlock": lambda: (self.stretch(), self.by()),
            "lock_whole": lambda: (self.kind(), self.wait()),
            "unlock_whole": lambda: (),
        }[word]()


def told_by_desk(desk, many_marks, many_asks):
    """All that the program's desk tells of itself without being handed stretches."""
    return {
        "tasks": desk.tasks(),
        "handles": [desk.handles(task) for task in desk.tasks()],
        "marks": [answer_of(lambda: desk.mark(number)) for number in range(-1, many_marks + 2)],
        "asleep": [desk.is_asleep(task) for task in desk.tasks()],
        "locks": [desk.locks(file) for file in desk.files],
        "whole": [desk.whole_locks(file) for file in desk.files],
        "asks": desk.asks(),
        "outcomes": [answer_of(lambda: desk.outcome(number)) for number in range(-1, many_asks + 2)],
        "why": [answer_of(lambda: desk.why(number)) for number in range(-1, many_asks + 2)],
        "ending": desk.ending(),
        "deeds": desk.deeds(),
        "counts": desk.counts(),
        "len": len(desk),
        "str": str(desk),
    }


def outcome_of(plain, number):
    if 0 <= number < len(plain.now.outcomes):
        return plain.now.outcomes[number]
    raise Refused("NoAsk")


def told_by_plain(plain, many_marks, many_asks):
    """The same of the plain desk."""
    return {
        "tasks": tuple(sorted(plain.now.tasks)),
        "handles": [plain.handles(task) for task in sorted(plain.now.tasks)],
        "marks": [answer_of(lambda: plain.mark(number)) for number in range(-1, many_marks + 2)],
        "asleep": [plain.sleeps(task) for task in sorted(plain.now.tasks)],
        "locks": [plain.locks(file) for file in plain.files],
        "whole": [plain.whole_locks(file) for file in plain.files],
        "asks": tuple(plain.now.waiting),
        "outcomes": [answer_of(lambda: outcome_of(plain, number)) for number in range(-1, many_asks + 2)],
        "why": [answer_of(lambda: plain.why(number)) for number in range(-1, many_asks + 2)],
        "ending": plain.ending(),
        "deeds": plain.deeds(),
        "counts": (len(plain.past), len(plain.future)),
        "len": len(plain.now.tasks),
        "str": plain.text(),
    }


class Pair:
    """The program's desk and the plain one, which are handed the same."""

    def __init__(self, seed, files=("a", "b"), fair=False, wrong=0.02):
        self.desk = Desk(files, fair=fair)
        self.plain = PlainDesk(files, fair)
        self.draw = Draw(seed, self.plain, wrong)

    def step(self):
        """One deed by both: (word, values, what the program told, what the plain desk told)."""
        word = self.draw.word()
        if word in ("back", "again"):
            told = answer_of(getattr(self.desk, word))
            return (word, (), told, answer_of(getattr(self.plain, word)))
        values = self.draw.values(word)
        told = answer_of(lambda: call(self.desk, word, values))
        return (word, values, told, answer_of(lambda: self.plain.do(word, values)))

    def both_told(self):
        """All that the one and the other tell."""
        many = (self.plain.now.many_marks, len(self.plain.now.outcomes))
        return told_by_desk(self.desk, *many), told_by_plain(self.plain, *many)

    def probe_values(self):
        task = self.draw.task("end")
        return (task, self.draw.handle(task), self.draw.kind(), self.draw.stretch(), self.draw.by())

    def may_values(self):
        task = self.draw.task("end")
        return (task, self.draw.handle(task), self.draw.may_word(), self.draw.stretch())
