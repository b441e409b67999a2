"""Point 0.3 and 2.3: of several refusals the first told is raised, and what is refused changes nothing."""

import itertools
import unittest

from lockstretch import errors
from small import DeskTest, desk_of, state_of

# Task 0 is awake: its handles 0, 1 and 2 lead to marks of mode both, read and write. Task 1 waits.
# Task 2 has the cells from 50 to 59 alone, and task 1 those from 60 to 69, and waits for task 0.
AWAKE, ASLEEP, NONE = 0, 1, 9
TASKS = (AWAKE, ASLEEP, NONE)
HANDLES = (0, 1, 2, 7)
KINDS = ("shared", "alone", "read", "")
HOLDERS = ("task", "mark", "file")
# Free, held by task 2, held by task 1, and no stretches.
STRETCHES = ((0, 5), (55, 56), (65, 66), (5, 5), [0, 5], None)


def made(fair):
    desk = desk_of(3, fair=fair)
    desk.attach(0, "a", mode="read")
    desk.attach(0, "a", mode="write")
    desk.dup(1, 0)
    desk.dup(1, 0)
    desk.lock(0, 0, "alone", (40, 41))
    desk.lock(2, 0, "alone", (50, 60))
    desk.lock(1, 0, "alone", (60, 70))
    desk.lock_whole(2, 0, "alone")
    desk.lock(1, 0, "alone", (40, 41), wait=True)
    desk.begin()
    desk.back()
    return desk


def first(*told):
    """The first refusal of which the condition holds; None, if there is none."""
    for name, holds in told:
        if holds:
            return name
    return None


def of_task(task, asleep_too=False):
    return (("NoTask", task == NONE), ("Asleep", task == ASLEEP and not asleep_too))


def of_handle(task, handle, asleep_too=False):
    # Handles 1 and 2 of task 1 lead to its one mark, of mode both.
    return of_task(task, asleep_too) + (("NoHandle", handle == 7),)


def of_kind(kind):
    return (("BadKind", kind not in ("shared", "alone")),)


def of_by(by):
    return (("BadKind", by not in ("task", "mark")),)


def of_stretch(stretch):
    return (("BadStretch", stretch in ((5, 5), [0, 5], None)),)


def of_lock(handle, kind, stretch, wait):
    """The refusals behind those of the values themselves, for task 0."""
    return (
        ("BadMode", (handle, kind) in ((1, "alone"), (2, "shared"))),
        ("Stuck", wait and stretch == (65, 66)),
        ("Held", not wait and stretch in ((55, 56), (65, 66))),
    )


class OrderTest(DeskTest):
    def setUp(self):
        self.desks = [made(False), made(True)]
        self.raised = {}

    def check(self, wanted, word, *values, **named):
        for desk in self.desks:
            ahead = state_of(desk)
            place = (word, values, named)
            if wanted is None:
                getattr(desk, word)(*values, **named)
                if desk.counts()[0] != ahead[0]["counts"][0]:
                    # A deed was done, which can not be done again with the one that was taken back.
                    desk.back()
                    desk.begin()
                    desk.back()
            else:
                with self.assertRaises(errors.LockError, msg=place) as caught:
                    getattr(desk, word)(*values, **named)
                self.assertEqual(type(caught.exception).__name__, wanted, place)
                self.raised[wanted] = self.raised.get(wanted, 0) + 1
            self.assertEqual(state_of(desk), ahead, place)

    def test_attach(self):
        for task, mode, file in itertools.product(TASKS, ("both", "read", "write", "alone", ""), ("a", "b", "c", "")):
            bad = (("BadMode", mode in ("alone", "")), ("NoFile", file in ("c", "")))
            self.check(first(*of_task(task), *bad), "attach", task, file, mode=mode)
        self.assertEqual(sorted(self.raised), ["Asleep", "BadMode", "NoFile", "NoTask"])

    def test_dup_close_unlock_whole(self):
        for task, handle in itertools.product(TASKS, HANDLES):
            wanted = first(*of_handle(task, handle))
            for at in (None, 0, 1, 2, 7, 8):
                self.check(wanted, "dup", task, handle, at=at)
            self.check(wanted, "close", task, handle)
            self.check(wanted, "unlock_whole", task, handle)
        self.assertEqual(sorted(self.raised), ["Asleep", "NoHandle", "NoTask"])

    def test_fork_end_cancel(self):
        for task in TASKS:
            self.check(first(*of_task(task)), "fork", task)
            self.check(first(*of_task(task, True)), "end", task)
            self.check(first(*of_task(task, True), ("Awake", task == AWAKE)), "cancel", task)
        self.assertEqual(sorted(self.raised), ["Asleep", "Awake", "NoTask"])

    def test_lock(self):
        for task, handle, kind, stretch, by, wait in itertools.product(
            TASKS, HANDLES, KINDS, STRETCHES, HOLDERS, (False, True),
        ):
            told = of_handle(task, handle) + of_kind(kind) + of_by(by) + of_stretch(stretch)
            wanted = first(*told, *of_lock(handle, kind, stretch, wait))
            self.check(wanted, "lock", task, handle, kind, stretch, by=by, wait=wait)
        self.assertEqual(sorted(self.raised), [
            "Asleep", "BadKind", "BadMode", "BadStretch", "Held", "NoHandle", "NoTask", "Stuck",
        ])

    def test_unlock(self):
        for task, handle, stretch, by in itertools.product(TASKS, HANDLES, STRETCHES, HOLDERS):
            wanted = first(*of_handle(task, handle), *of_by(by), *of_stretch(stretch))
            self.check(wanted, "unlock", task, handle, stretch, by=by)

    def test_lock_whole(self):
        for task, handle, kind, wait in itertools.product(TASKS, HANDLES, KINDS, (False, True)):
            wanted = first(*of_handle(task, handle), *of_kind(kind), ("Held", not wait))
            self.check(wanted, "lock_whole", task, handle, kind, wait=wait)
        self.assertEqual(sorted(self.raised), ["Asleep", "BadKind", "Held", "NoHandle", "NoTask"])

    def test_probe(self):
        for task, handle, kind, stretch, by in itertools.product(TASKS, HANDLES, KINDS, STRETCHES, HOLDERS):
            told = of_handle(task, handle, True) + of_kind(kind) + of_by(by) + of_stretch(stretch)
            self.check(first(*told), "probe", task, handle, kind, stretch, by=by)
        self.assertEqual(sorted(self.raised), ["BadKind", "BadStretch", "NoHandle", "NoTask"])

    def test_may(self):
        for task, handle, word, stretch in itertools.product(TASKS, HANDLES, ("read", "write", "both"), STRETCHES):
            told = of_handle(task, handle, True) + (("BadKind", word == "both"),) + of_stretch(stretch)
            self.check(first(*told), "may", task, handle, word, stretch)
        self.assertEqual(sorted(self.raised), ["BadKind", "BadStretch", "NoHandle", "NoTask"])


if __name__ == "__main__":
    unittest.main()
