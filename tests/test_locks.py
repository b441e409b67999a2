"""Points 3.1 to 3.4: locks on stretches, what they are against, unlock, probe and locks."""

import itertools
import unittest

from lockstretch.errors import BadKind, BadMode, BadStretch, Held, NoFile, NoHandle, NoTask
from small import ALL, DeskTest, desk_of

NO_STRETCHES = (
    None, (), (0,), (0, 0), (3, 2), (-1, 2), (0, 1, 2), [0, 1], "0..1", 7, (True, 2), (0, True), (None, 3), ("0", 1),
    ((0, 1),), (0, -1), (10 ** 5000, 1),
)


class OwnLocksTest(DeskTest):
    """Locks of one holder: split, joined, made shared or alone cell by cell."""

    def test_a_lock_is_told(self):
        desk = desk_of(1)
        self.assertIsNone(desk.lock(0, 0, "alone", (2, 5)))
        self.assertEqual(desk.locks("a"), ((2, 5, "alone", "task", 0),))
        self.assertEqual(desk.locks("b"), ())

    def test_part_of_the_cells_made_shared(self):
        desk = desk_of(1)
        desk.lock(0, 0, "alone", (0, 9))
        desk.lock(0, 0, "shared", (3, 5))
        self.assertEqual(desk.locks("a"), (
            (0, 3, "alone", "task", 0), (3, 5, "shared", "task", 0), (5, 9, "alone", "task", 0),
        ))
        desk.lock(0, 0, "shared", (0, 4))
        self.assertEqual(desk.locks("a"), ((0, 5, "shared", "task", 0), (5, 9, "alone", "task", 0)))
        desk.lock(0, 0, "alone", ALL)
        self.assertEqual(desk.locks("a"), ((0, None, "alone", "task", 0),))

    def test_joined_where_they_touch(self):
        desk = desk_of(1)
        desk.lock(0, 0, "shared", (0, 2))
        desk.lock(0, 0, "shared", (4, 6))
        self.assertEqual(desk.locks("a"), ((0, 2, "shared", "task", 0), (4, 6, "shared", "task", 0)))
        desk.lock(0, 0, "shared", (2, 4))
        self.assertEqual(desk.locks("a"), ((0, 6, "shared", "task", 0),))
        desk.lock(0, 0, "shared", (6, None))
        self.assertEqual(desk.locks("a"), ((0, None, "shared", "task", 0),))

    def test_split_by_unlock(self):
        desk = desk_of(1)
        desk.lock(0, 0, "alone", ALL)
        self.assertIsNone(desk.unlock(0, 0, (3, 5)))
        self.assertEqual(desk.locks("a"), ((0, 3, "alone", "task", 0), (5, None, "alone", "task", 0)))
        desk.unlock(0, 0, (7, None))
        self.assertEqual(desk.locks("a"), ((0, 3, "alone", "task", 0), (5, 7, "alone", "task", 0)))
        desk.unlock(0, 0, (2, 6))
        self.assertEqual(desk.locks("a"), ((0, 2, "alone", "task", 0), (6, 7, "alone", "task", 0)))
        desk.unlock(0, 0, ALL)
        self.assertEqual(desk.locks("a"), ())

    def test_unlock_takes_both_kinds_and_nothing_else(self):
        desk = desk_of(2)
        desk.lock(0, 0, "alone", (0, 3))
        desk.lock(0, 0, "shared", (3, 6))
        desk.lock(1, 0, "shared", (4, 8))
        desk.lock(0, 0, "alone", (8, 9), by="mark")
        desk.unlock(0, 0, (1, None))
        self.assertEqual(desk.locks("a"), (
            (0, 1, "alone", "task", 0), (4, 8, "shared", "task", 1), (8, 9, "alone", "mark", 0),
        ))
        desk.unlock(0, 0, (8, 9), by="mark")
        self.assertEqual(desk.locks("a"), ((0, 1, "alone", "task", 0), (4, 8, "shared", "task", 1)))

    def test_unlock_of_cells_without_a_lock_is_a_deed(self):
        desk = desk_of(1)
        many = desk.counts()[0]
        self.assertIsNone(desk.unlock(0, 0, (0, 4)))
        self.assertEqual(desk.counts()[0], many + 1)

    def test_very_large_numbers(self):
        desk = desk_of(2)
        huge = 10 ** 40
        desk.lock(0, 0, "alone", (huge, None))
        self.assertIsNone(desk.lock(1, 0, "alone", (0, huge)))
        self.assert_refused(Held, desk, "lock", 1, 0, "shared", (5, huge + 1))
        desk.unlock(0, 0, (huge, huge + 1))
        self.assertIsNone(desk.lock(1, 0, "shared", (5, huge + 1)))

    def test_the_holder_is_the_mark_or_the_task(self):
        desk = desk_of(1)
        desk.attach(0, "a")
        desk.lock(0, 0, "shared", (0, 3))
        desk.lock(0, 1, "shared", (2, 4))
        desk.lock(0, 0, "shared", (0, 3), by="mark")
        desk.lock(0, 1, "shared", (0, 3), by="mark")
        self.assertEqual(desk.locks("a"), (
            (0, 3, "shared", "mark", 0), (0, 3, "shared", "mark", 1), (0, 4, "shared", "task", 0),
        ))

    def test_a_mark_in_common_is_one_holder(self):
        desk = desk_of(1)
        desk.fork(0)
        desk.lock(0, 0, "alone", (0, 5), by="mark")
        desk.lock(1, 0, "shared", (2, 3), by="mark")
        desk.unlock(1, 0, (4, 9), by="mark")
        self.assertEqual(desk.locks("a"), (
            (0, 2, "alone", "mark", 0), (2, 3, "shared", "mark", 0), (3, 4, "alone", "mark", 0),
        ))

    def test_a_mark_dupped_is_one_holder(self):
        desk = desk_of(1)
        desk.dup(0, 0)
        desk.lock(0, 0, "alone", (0, 5), by="mark")
        self.assertIsNone(desk.lock(0, 1, "alone", (0, 7), by="mark"))
        self.assertEqual(desk.locks("a"), ((0, 7, "alone", "mark", 0),))


class AgainstTest(DeskTest):
    def test_kinds_cells_and_holders(self):
        for one, other in itertools.product(("shared", "alone"), repeat=2):
            for stretch in ((0, 2), (3, 5), (4, None), (5, None), (4, 5), (2, 3), (0, None), (0, 4)):
                for fair in (False, True):
                    desk = desk_of(2, fair=fair)
                    desk.lock(0, 0, one, (2, 5))
                    meets = stretch not in ((0, 2), (5, None))
                    if meets and "alone" in (one, other):
                        blocker = self.assert_refused(Held, desk, "lock", 1, 0, other, stretch).blocker
                        self.assertEqual(blocker, (2, 5, one, "task", 0))
                    else:
                        self.assertIsNone(desk.lock(1, 0, other, stretch))

    def test_a_task_and_its_own_mark_are_unlike(self):
        desk = desk_of(1)
        desk.lock(0, 0, "alone", (0, 3))
        self.assertEqual(
            self.assert_refused(Held, desk, "lock", 0, 0, "shared", (2, 4), by="mark").blocker,
            (0, 3, "alone", "task", 0),
        )
        self.assertIsNone(desk.lock(0, 0, "shared", (3, 4), by="mark"))

    def test_a_task_and_a_mark_of_the_same_number_are_unlike(self):
        desk = desk_of(2)
        desk.lock(0, 0, "alone", (0, 3), by="mark")
        self.assert_refused(Held, desk, "lock", 0, 0, "alone", (0, 3))
        self.assert_refused(Held, desk, "lock", 1, 0, "alone", (0, 3), by="mark")

    def test_unlike_files(self):
        desk = desk_of(2)
        desk.lock(0, 0, "alone", ALL)
        desk.attach(1, "b")
        self.assertIsNone(desk.lock(1, 1, "alone", ALL))
        self.assertEqual(desk.locks("b"), ((0, None, "alone", "task", 1),))

    def test_alone_over_what_somebody_else_shares(self):
        desk = desk_of(2)
        desk.lock(0, 0, "shared", (0, 5))
        desk.lock(1, 0, "shared", (3, 8))
        self.assert_refused(Held, desk, "lock", 0, 0, "alone", (0, 4))
        self.assertIsNone(desk.lock(0, 0, "alone", (0, 3)))
        self.assertEqual(desk.locks("a"), (
            (0, 3, "alone", "task", 0), (3, 5, "shared", "task", 0), (3, 8, "shared", "task", 1),
        ))

    def test_modes(self):
        desk = desk_of(1)
        for mode in ("read", "write"):
            desk.attach(0, "a", mode=mode)
        for by, wait in itertools.product(("task", "mark"), (False, True)):
            self.assert_refused(BadMode, desk, "lock", 0, 1, "alone", (0, 1), by=by, wait=wait)
            self.assert_refused(BadMode, desk, "lock", 0, 2, "shared", (0, 1), by=by, wait=wait)
        self.assertIsNone(desk.lock(0, 1, "shared", (0, 1)))
        self.assertIsNone(desk.lock(0, 2, "alone", (1, 2)))
        # Unlock and probe ask for no mode.
        self.assertIsNone(desk.unlock(0, 2, (0, 1)))
        self.assertIsNone(desk.probe(0, 1, "alone", (0, 1)))
        self.assertIsNone(desk.probe(0, 2, "shared", (0, 1)))

    def test_wrong_kinds_and_stretches(self):
        desk = desk_of(1)
        for kind in ("", "Shared", "read", None, 0, ["alone"]):
            self.assert_refused(BadKind, desk, "lock", 0, 0, kind, (0, 1))
            self.assert_refused(BadKind, desk, "lock", 0, 0, kind, None)
            self.assert_refused(BadKind, desk, "probe", 0, 0, kind, (0, 1))
        for by in ("", "Task", "file", None, 0, ["task"]):
            self.assert_refused(BadKind, desk, "lock", 0, 0, "alone", (0, 1), by=by)
            self.assert_refused(BadKind, desk, "unlock", 0, 0, (0, 1), by=by)
            self.assert_refused(BadKind, desk, "unlock", 0, 0, None, by=by)
            self.assert_refused(BadKind, desk, "probe", 0, 0, "alone", (0, 1), by=by)
        for stretch in NO_STRETCHES:
            self.assert_refused(BadStretch, desk, "lock", 0, 0, "alone", stretch)
            self.assert_refused(BadStretch, desk, "lock", 0, 0, "alone", stretch, wait=True)
            self.assert_refused(BadStretch, desk, "unlock", 0, 0, stretch)
            self.assert_refused(BadStretch, desk, "probe", 0, 0, "alone", stretch)


class ProbeTest(DeskTest):
    def test_nothing_and_the_first_lock(self):
        desk = desk_of(3)
        self.assertIsNone(desk.probe(2, 0, "alone", ALL))
        desk.lock(0, 0, "shared", (4, None))
        desk.lock(1, 0, "shared", (4, 6))
        desk.lock(1, 0, "alone", (1, 2))
        self.assertIsNone(desk.probe(2, 0, "shared", (2, None)))
        self.assertEqual(desk.probe(2, 0, "shared", ALL), (1, 2, "alone", "task", 1))
        self.assertEqual(desk.probe(2, 0, "alone", (2, None)), (4, 6, "shared", "task", 1))
        self.assertEqual(desk.probe(2, 0, "alone", (6, 7)), (4, None, "shared", "task", 0))
        self.assertEqual(desk.probe(1, 0, "alone", (3, 7)), (4, None, "shared", "task", 0))

    def test_asks_block_in_a_fair_desk_alone(self):
        for fair in (False, True):
            desk = desk_of(4, fair=fair)
            desk.lock(0, 0, "shared", (0, 2))
            desk.lock(1, 0, "alone", (0, 6), wait=True)
            desk.lock(2, 0, "alone", (1, 6), wait=True)
            self.assertEqual(desk.probe(3, 0, "alone", (1, 6)), (0, 2, "shared", "task", 0))
            ask = (0, 1, "a", "alone", (0, 6), "task", 1)
            self.assertEqual(desk.probe(3, 0, "shared", (1, 6)), ask if fair else None)
            self.assertEqual(desk.probe(3, 0, "shared", (6, 9)), None)
            if fair:
                held = self.assert_refused(Held, desk, "lock", 3, 0, "shared", (4, 5))
                self.assertEqual(held.blocker, ask)
            else:
                self.assertIsNone(desk.lock(3, 0, "shared", (4, 5)))

    def test_shared_asks_are_not_against_shared_ones(self):
        desk = desk_of(3, fair=True)
        desk.lock(0, 0, "alone", (0, 2))
        desk.lock(1, 0, "shared", (0, 6), wait=True)
        self.assertIsNone(desk.probe(2, 0, "shared", (2, 6)))
        self.assertEqual(desk.probe(2, 0, "alone", (2, 6)), desk.asks()[0])

    def test_an_ask_of_the_same_holder_is_not_against(self):
        desk = desk_of(2, fair=True)
        desk.fork(1)
        desk.lock(0, 0, "shared", (0, 2))
        desk.lock(1, 0, "alone", (0, 6), by="mark", wait=True)
        self.assertIsNone(desk.probe(2, 0, "alone", (3, 4), by="mark"))
        self.assertEqual(desk.probe(2, 0, "shared", (3, 4)), desk.asks()[0])

    def test_of_tasks_that_wait(self):
        desk = desk_of(2)
        desk.lock(0, 0, "alone", (0, 5))
        desk.lock(1, 0, "alone", (0, 5), wait=True)
        many = desk.counts()
        self.assertEqual(desk.probe(1, 0, "shared", (4, 9)), (0, 5, "alone", "task", 0))
        self.assertIsNone(desk.probe(1, 0, "shared", (5, 9), by="mark"))
        self.assertEqual(desk.counts(), many)

    def test_refusals(self):
        desk = desk_of(1)
        self.assert_refused(NoTask, desk, "probe", 1, 0, "alone", ALL)
        self.assert_refused(NoHandle, desk, "probe", 0, 1, "alone", ALL)


class LocksTest(DeskTest):
    def test_rising_those_without_end_behind(self):
        desk = desk_of(4)
        desk.lock(3, 0, "shared", (2, None))
        desk.lock(2, 0, "shared", (2, 9))
        desk.lock(1, 0, "shared", (2, 3))
        desk.lock(1, 0, "shared", (2, 3), by="mark")
        desk.lock(0, 0, "shared", (2, 10))
        desk.lock(0, 0, "alone", (0, 1))
        desk.lock(1, 0, "shared", (2, None), by="mark")
        desk.lock(0, 0, "shared", (2, 3), by="mark")
        self.assertEqual(desk.locks("a"), (
            (0, 1, "alone", "task", 0),
            (2, 3, "shared", "mark", 0),
            (2, 3, "shared", "task", 1),
            (2, 9, "shared", "task", 2),
            (2, 10, "shared", "task", 0),
            (2, None, "shared", "mark", 1),
            (2, None, "shared", "task", 3),
        ))

    def test_no_file(self):
        desk = desk_of(1)
        for file in ("c", "", "A", None, 0, ["a"]):
            self.assert_refused(NoFile, desk, "locks", file)
            self.assert_refused(NoFile, desk, "whole_locks", file)

    def test_kinds_of_what_is_told(self):
        desk = desk_of(1)
        desk.lock(0, 0, "alone", (0, 1))
        self.assertIs(type(desk.locks("a")), tuple)
        self.assertEqual([type(part) for part in desk.locks("a")[0]], [int, int, str, str, int])


class HeldTest(DeskTest):
    def test_blocker_as_probe_tells_it(self):
        def check(desk):
            desk.lock(0, 0, "shared", (3, 6))
            desk.lock(1, 0, "alone", (8, 9), by="mark")
            for kind, stretch, by in itertools.product(
                ("shared", "alone"), ((0, 4), (5, 9), (8, None), ALL), ("task", "mark"),
            ):
                blocker = desk.probe(2, 0, kind, stretch, by=by)
                if blocker is not None:
                    held = self.assert_refused(Held, desk, "lock", 2, 0, kind, stretch, by=by)
                    self.assertEqual(held.blocker, blocker)
        self.assert_both_sorts(check, 3)

    def test_an_ask_of_its_own_is_blocked_by_elder_asks_though_it_would_give_way(self):
        desk = desk_of(2, fair=True)
        desk.lock(0, 0, "alone", (0, 5))
        desk.lock(1, 0, "alone", (0, 5), wait=True)
        held = self.assert_refused(Held, desk, "lock", 0, 0, "shared", (0, 2))
        self.assertEqual(held.blocker, (0, 1, "a", "alone", (0, 5), "task", 1))


if __name__ == "__main__":
    unittest.main()
