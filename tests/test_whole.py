"""Points 5.1 and 5.2: whole files, and what may be done."""

import itertools
import unittest

from lockstretch.errors import Asleep, BadKind, BadStretch, Held, NoHandle, NoTask, Stuck
from small import ALL, DeskTest, desk_of


class LockWholeTest(DeskTest):
    def test_shared_by_many_alone_by_one(self):
        def check(desk):
            self.assertIsNone(desk.lock_whole(1, 0, "shared"))
            self.assertIsNone(desk.lock_whole(0, 0, "shared"))
            self.assertEqual(desk.whole_locks("a"), ((0, "shared"), (1, "shared")))
            self.assertEqual(desk.whole_locks("b"), ())
            held = self.assert_refused(Held, desk, "lock_whole", 1, 0, "alone")
            self.assertEqual(held.blocker, (0, "shared"))
            held = self.assert_refused(Held, desk, "lock_whole", 2, 0, "alone")
            self.assertEqual(held.blocker, (0, "shared"))
            self.assertIsNone(desk.unlock_whole(0, 0))
            self.assertIsNone(desk.lock_whole(1, 0, "alone"))
            self.assertEqual(desk.whole_locks("a"), ((1, "alone"),))
            held = self.assert_refused(Held, desk, "lock_whole", 0, 0, "shared")
            self.assertEqual(held.blocker, (1, "alone"))
            self.assertIsNone(desk.lock_whole(1, 0, "shared"))
            self.assertIsNone(desk.lock_whole(2, 0, "shared"))
        self.assert_both_sorts(check, 3)

    def test_in_whatever_mode(self):
        desk = desk_of(1)
        for handle, mode in ((1, "read"), (2, "write")):
            desk.attach(0, "b", mode=mode)
            for kind in ("shared", "alone"):
                self.assertIsNone(desk.lock_whole(0, handle, kind))
                self.assertEqual(desk.whole_locks("b"), ((handle, kind),))
            desk.unlock_whole(0, handle)

    def test_never_against_those_on_stretches(self):
        def check(desk):
            desk.lock(0, 0, "alone", ALL)
            self.assertIsNone(desk.lock_whole(1, 0, "alone"))
            desk.unlock(0, 0, ALL)
            self.assertIsNone(desk.lock(0, 0, "alone", ALL))
            self.assertIsNone(desk.unlock(0, 0, ALL))
            self.assertIsNone(desk.lock(2, 0, "shared", ALL, by="mark"))
            self.assertEqual(desk.whole_locks("a"), ((1, "alone"),))
        self.assert_both_sorts(check, 3)

    def test_whole_asks_and_others_are_not_against_one_another(self):
        desk = desk_of(4, fair=True)
        desk.lock_whole(0, 0, "alone")
        desk.lock_whole(1, 0, "alone", wait=True)
        self.assertIsNone(desk.lock(2, 0, "alone", (0, 5)))
        desk.lock(3, 0, "alone", (0, 5), wait=True)
        self.assertEqual(desk.why(1), ((0, 5, "alone", "task", 2),))
        desk.unlock_whole(0, 0)
        self.assertEqual(desk.whole_locks("a"), ((1, "alone"),))
        desk.lock_whole(0, 0, "shared", wait=True)
        self.assertEqual(desk.why(2), ((1, "alone"),))

    def test_a_mark_in_common_has_one_whole_lock(self):
        desk = desk_of(1)
        desk.fork(0)
        desk.dup(0, 0)
        desk.lock_whole(0, 0, "shared")
        self.assertIsNone(desk.lock_whole(1, 0, "alone"))
        self.assertIsNone(desk.lock_whole(0, 1, "alone"))
        self.assertEqual(desk.whole_locks("a"), ((0, "alone"),))
        desk.unlock_whole(1, 0)
        self.assertEqual(desk.whole_locks("a"), ())

    def test_two_marks_of_one_task_are_unlike(self):
        desk = desk_of(1)
        desk.attach(0, "a")
        desk.lock_whole(0, 0, "alone")
        self.assert_refused(Held, desk, "lock_whole", 0, 1, "shared")
        self.assert_refused(Stuck, desk, "lock_whole", 0, 1, "shared", wait=True)

    def test_unlock_without_a_lock_is_a_deed(self):
        desk = desk_of(1)
        many = desk.counts()[0]
        self.assertIsNone(desk.unlock_whole(0, 0))
        self.assertEqual(desk.counts()[0], many + 1)

    def test_it_goes_with_the_mark_not_with_a_task(self):
        desk = desk_of(1)
        desk.fork(0)
        desk.lock_whole(0, 0, "alone")
        desk.end(0)
        self.assertEqual(desk.whole_locks("a"), ((0, "alone"),))
        desk.end(1)
        self.assertEqual(desk.whole_locks("a"), ())

    def test_rising(self):
        desk = desk_of(12)
        for task in (11, 2, 10, 1, 0):
            desk.lock_whole(task, 0, "shared")
        self.assertEqual([row[0] for row in desk.whole_locks("a")], [0, 1, 2, 10, 11])

    def test_refusals(self):
        desk = desk_of(2)
        for kind in ("", "Alone", "whole", None, 1):
            self.assert_refused(BadKind, desk, "lock_whole", 0, 0, kind)
            self.assert_refused(BadKind, desk, "lock_whole", 0, 0, kind, wait=True)
        for word, more in (("lock_whole", ("alone",)), ("unlock_whole", ())):
            self.assert_refused(NoTask, desk, word, 2, 0, *more)
            self.assert_refused(NoHandle, desk, word, 0, 1, *more)
        desk.lock(0, 0, "alone", ALL)
        desk.lock(1, 0, "alone", ALL, wait=True)
        for word, more in (("lock_whole", ("alone",)), ("unlock_whole", ())):
            self.assert_refused(Asleep, desk, word, 1, 0, *more)


class WaitWholeTest(DeskTest):
    def test_an_ask_is_told(self):
        desk = desk_of(3)
        desk.lock_whole(1, 0, "alone")
        desk.lock(1, 0, "alone", (0, 2))
        self.assertEqual(desk.lock_whole(0, 0, "shared", wait=True), 0)
        self.assertEqual(desk.lock(2, 0, "alone", (0, 1), wait=True), 1)
        self.assertEqual(desk.asks(), (
            (0, 0, "a", "shared", None, "mark", 0), (1, 2, "a", "alone", (0, 1), "task", 2),
        ))
        self.assertEqual(desk.why(0), ((1, "alone"),))
        desk.lock_whole(1, 0, "shared")
        self.assertEqual((desk.outcome(0), desk.outcome(1)), ("granted", "waits"))
        self.assertEqual(desk.whole_locks("a"), ((0, "shared"), (1, "shared")))

    def test_the_lock_that_the_mark_has_is_let_go_at_once(self):
        desk = desk_of(3)
        for task in range(3):
            desk.lock_whole(task, 0, "shared")
        desk.lock_whole(0, 0, "alone", wait=True)
        self.assertEqual(desk.whole_locks("a"), ((1, "shared"), (2, "shared")))
        # Task 1 does the same: what task 0 had is gone, so nobody waits for himself.
        desk.lock_whole(1, 0, "alone", wait=True)
        self.assertEqual(desk.whole_locks("a"), ((2, "shared"),))
        desk.unlock_whole(2, 0)
        self.assertEqual((desk.outcome(0), desk.outcome(1)), ("granted", "waits"))
        self.assertEqual(desk.whole_locks("a"), ((0, "alone"),))

    def test_what_is_let_go_makes_way_at_once(self):
        for fair in (False, True):
            desk = desk_of(3, fair=fair)
            desk.lock_whole(0, 0, "shared")
            desk.lock_whole(1, 0, "alone", wait=True)
            self.assertEqual(desk.lock_whole(2, 0, "alone", wait=True), 1)
            desk.cancel(2)
            desk.end(2)
            # Ask 0 waits for mark 0 alone, and has it now.
            if fair:
                self.assertEqual(desk.lock_whole(0, 0, "alone", wait=True), 2)
                self.assertEqual((desk.outcome(0), desk.outcome(2)), ("granted", "waits"))
                self.assertEqual(desk.whole_locks("a"), ((1, "alone"),))
            else:
                self.assertIsNone(desk.lock_whole(0, 0, "alone", wait=True))
                self.assertEqual(desk.whole_locks("a"), ((0, "alone"),))

    def test_held_lets_go_of_nothing(self):
        desk = desk_of(2)
        desk.lock_whole(0, 0, "shared")
        desk.lock_whole(1, 0, "shared")
        self.assert_refused(Held, desk, "lock_whole", 0, 0, "alone")
        self.assertEqual(desk.whole_locks("a"), ((0, "shared"), (1, "shared")))

    def test_stuck_lets_go_of_nothing(self):
        desk = desk_of(2)
        desk.attach(0, "a")
        desk.lock_whole(0, 0, "shared")
        desk.lock_whole(0, 1, "shared")
        self.assert_refused(Stuck, desk, "lock_whole", 0, 0, "alone", wait=True)
        self.assertEqual(desk.whole_locks("a"), ((0, "shared"), (2, "shared")))

    def test_the_elder_of_the_asks_in_a_fair_desk(self):
        for fair in (False, True):
            desk = desk_of(4, fair=fair)
            desk.lock_whole(0, 0, "shared")
            desk.lock_whole(1, 0, "alone", wait=True)
            desk.lock_whole(2, 0, "alone", wait=True)
            if fair:
                held = self.assert_refused(Held, desk, "lock_whole", 3, 0, "shared")
                self.assertEqual(held.blocker, (0, 1, "a", "alone", None, "mark", 1))
                self.assertEqual(desk.lock_whole(3, 0, "shared", wait=True), 2)
                self.assertEqual(desk.why(2), (0, 1))
                self.assertEqual(desk.why(1), ((0, "shared"), 0))
            else:
                self.assertEqual(desk.why(1), ((0, "shared"),))
                self.assertIsNone(desk.lock_whole(3, 0, "shared"))

    def test_asks_of_unlike_files_are_not_against_one_another(self):
        desk = desk_of(2, fair=True)
        desk.lock_whole(0, 0, "shared")
        desk.lock_whole(1, 0, "alone", wait=True)
        desk.begin()
        desk.attach(2, "b")
        self.assertIsNone(desk.lock_whole(2, 0, "alone"))

    def test_an_ask_of_the_same_mark_is_not_against(self):
        desk = desk_of(2, fair=True)
        desk.fork(1)
        desk.lock_whole(0, 0, "shared")
        desk.lock_whole(1, 0, "alone", wait=True)
        self.assertIsNone(desk.lock_whole(2, 0, "shared"))
        self.assertEqual(desk.whole_locks("a"), ((0, "shared"), (1, "shared")))
        desk.end(0)
        self.assertEqual(desk.whole_locks("a"), ((1, "alone"),))

    def test_stuck_by_a_deed_of_somebody_else(self):
        desk = desk_of(1)
        desk.fork(0)
        desk.attach(0, "a")
        desk.lock_whole(0, 0, "shared")
        self.assertEqual(desk.lock_whole(0, 1, "alone", wait=True), 0)
        desk.close(1, 0)
        self.assertEqual((desk.outcome(0), desk.is_asleep(0)), ("stuck", False))
        self.assertEqual(desk.whole_locks("a"), ((0, "shared"),))

    def test_cancelled_and_ended(self):
        desk = desk_of(3)
        desk.lock_whole(0, 0, "alone")
        desk.lock_whole(1, 0, "alone", wait=True)
        desk.lock_whole(2, 0, "alone", wait=True)
        desk.cancel(1)
        desk.end(2)
        self.assertEqual((desk.outcome(0), desk.outcome(1)), ("cancelled", "ended"))
        desk.end(0)
        self.assertEqual(desk.whole_locks("a"), ())


class MayTest(DeskTest):
    def test_modes(self):
        desk = desk_of(1)
        for mode, reads, writes in (("both", True, True), ("read", True, False), ("write", False, True)):
            handle = desk.attach(0, "b", mode=mode)
            self.assertIs(desk.may(0, handle, "read", ALL), reads)
            self.assertIs(desk.may(0, handle, "write", ALL), writes)

    def test_locks_of_others(self):
        for kind, word, by in itertools.product(("shared", "alone"), ("read", "write"), ("task", "mark")):
            desk = desk_of(2)
            desk.lock(0, 0, kind, (2, 5), by=by)
            kept = kind == "alone" or word == "write"
            for stretch, meets in (((0, 2), False), ((0, 3), True), ((4, None), True), ((5, 9), False), (ALL, True)):
                self.assertIs(desk.may(1, 0, word, stretch), not (kept and meets), (kind, word, stretch))
                self.assertIs(desk.may(0, 0, word, stretch), True)

    def test_the_task_by_whichever_handle_the_mark_by_its_own(self):
        desk = desk_of(1)
        desk.attach(0, "a")
        desk.dup(0, 0)
        desk.lock(0, 0, "alone", (0, 2))
        desk.lock(0, 0, "alone", (4, 6), by="mark")
        self.assertEqual([desk.may(0, handle, "read", (0, 2)) for handle in range(3)], [True, True, True])
        self.assertEqual([desk.may(0, handle, "read", (4, 6)) for handle in range(3)], [True, False, True])

    def test_the_mark_in_common_but_not_the_task(self):
        desk = desk_of(1)
        desk.fork(0)
        desk.lock(0, 0, "alone", (0, 2))
        desk.lock(0, 0, "alone", (4, 6), by="mark")
        self.assertEqual((desk.may(1, 0, "read", (0, 2)), desk.may(1, 0, "write", (4, 6))), (False, True))

    def test_task_and_mark_of_the_same_number_are_unlike(self):
        desk = desk_of(2)
        desk.attach(0, "a")
        desk.end(1)
        desk.begin()
        desk.attach(2, "a")
        desk.lock(0, 1, "alone", (0, 2), by="mark")
        self.assertEqual(desk.handles(0), ((0, 0), (1, 2)))
        self.assertIs(desk.may(2, 0, "read", (0, 2)), False)

    def test_neither_whole_locks_nor_asks_nor_other_files(self):
        desk = desk_of(3, fair=True)
        desk.attach(2, "b")
        desk.lock_whole(0, 0, "alone")
        desk.lock(0, 0, "shared", (0, 1))
        desk.lock(2, 1, "alone", ALL)
        desk.lock(1, 0, "alone", ALL, wait=True)
        self.assertIs(desk.may(2, 0, "write", (1, None)), True)

    def test_of_tasks_that_wait_and_it_is_no_deed(self):
        desk = desk_of(2)
        desk.lock(0, 0, "alone", (0, 5))
        desk.lock(1, 0, "alone", (0, 5), wait=True)
        many = desk.counts()
        self.assertIs(desk.may(1, 0, "read", (0, 5)), False)
        self.assertIs(desk.may(1, 0, "read", (5, 6)), True)
        self.assertEqual(desk.counts(), many)

    def test_refusals(self):
        desk = desk_of(1)
        desk.attach(0, "a", mode="read")
        for word in ("", "both", "shared", "Read", None, 0):
            self.assert_refused(BadKind, desk, "may", 0, 0, word, ALL)
            self.assert_refused(BadKind, desk, "may", 0, 0, word, (3, 3))
        for stretch in (None, (3, 3), (-1, 4), [0, 1], (0, True), "0..1", ()):
            self.assert_refused(BadStretch, desk, "may", 0, 0, "read", stretch)
            self.assert_refused(BadStretch, desk, "may", 0, 1, "write", stretch)
        self.assert_refused(NoTask, desk, "may", 1, 0, "read", ALL)
        self.assert_refused(NoHandle, desk, "may", 0, 2, "read", ALL)


if __name__ == "__main__":
    unittest.main()
