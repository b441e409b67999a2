"""Points 2.1 to 2.3: tasks, handles and marks."""

import unittest

from lockstretch.desks import Desk
from lockstretch.errors import Asleep, BadMode, NoFile, NoHandle, NoMark, NoTask
from small import ALL, DeskTest, desk_of


class BeginTest(DeskTest):
    def test_a_new_desk_has_nothing(self):
        for fair in (False, True):
            desk = Desk(("a", "letters"), fair=fair)
            self.assertEqual((desk.tasks(), desk.asks(), desk.ending(), desk.deeds()), ((), (), (), ()))
            self.assertEqual((desk.counts(), len(desk), str(desk)), ((0, 0), 0, "0 tasks, 0 locks, 0 asks"))
            self.assertEqual((desk.locks("letters"), desk.whole_locks("letters")), ((), ()))

    def test_a_desk_without_files(self):
        desk = Desk(())
        self.assertEqual(desk.begin(), 0)
        self.assert_refused(NoFile, desk, "attach", 0, "a")
        self.assert_refused(NoFile, desk, "locks", "a")

    def test_numbers_from_0_on(self):
        desk = Desk(("a",))
        self.assertEqual([desk.begin() for task in range(4)], [0, 1, 2, 3])
        self.assertEqual(desk.tasks(), (0, 1, 2, 3))
        self.assertEqual([desk.handles(task) for task in desk.tasks()], [(), (), (), ()])

    def test_no_number_is_given_twice(self):
        desk = Desk(("a",))
        desk.begin()
        desk.begin()
        desk.end(1)
        self.assertEqual(desk.begin(), 2)
        desk.end(0)
        self.assertEqual(desk.fork(2), 3)
        self.assertEqual(desk.tasks(), (2, 3))

    def test_each_kind_is_numbered_by_itself(self):
        desk = desk_of(3)
        desk.attach(0, "b")
        self.assertEqual(desk.handles(0), ((0, 0), (1, 3)))
        desk.lock(0, 0, "alone", ALL)
        self.assertEqual(desk.lock(1, 0, "alone", ALL, wait=True), 0)
        self.assertEqual(desk.lock(2, 0, "alone", ALL, wait=True), 1)
        self.assertEqual(desk.begin(), 3)
        desk.cancel(1)
        self.assertEqual(desk.lock(1, 0, "alone", ALL, wait=True), 2)


class AttachTest(DeskTest):
    def test_each_time_a_new_mark(self):
        desk = Desk(("a", "b"))
        desk.begin()
        self.assertEqual(desk.attach(0, "a"), 0)
        self.assertEqual(desk.attach(0, "a", mode="read"), 1)
        self.assertEqual(desk.attach(0, "b", mode="write"), 2)
        self.assertEqual(desk.handles(0), ((0, 0), (1, 1), (2, 2)))
        self.assertEqual(desk.mark(0), ("a", "both", (0,)))
        self.assertEqual(desk.mark(1), ("a", "read", (0,)))
        self.assertEqual(desk.mark(2), ("b", "write", (0,)))

    def test_the_least_handle_that_the_task_has_not(self):
        desk = Desk(("a",))
        desk.begin()
        for handle in range(4):
            self.assertEqual(desk.attach(0, "a"), handle)
        desk.close(0, 2)
        desk.close(0, 0)
        self.assertEqual([desk.attach(0, "a") for again in range(3)], [0, 2, 4])
        self.assertEqual(desk.handles(0), ((0, 4), (1, 1), (2, 5), (3, 3), (4, 6)))

    def test_handles_of_unlike_tasks_are_their_own(self):
        desk = desk_of(2)
        self.assertEqual(desk.attach(1, "b"), 1)
        self.assertEqual((desk.handles(0), desk.handles(1)), (((0, 0),), ((0, 1), (1, 2))))

    def test_refusals(self):
        desk = desk_of(1)
        for mode in ("", "Both", "shared", "rw", None, 0, ["both"]):
            self.assert_refused(BadMode, desk, "attach", 0, "a", mode=mode)
            self.assert_refused(BadMode, desk, "attach", 0, "none", mode=mode)
        for file in ("c", "", "A", "ab"):
            self.assert_refused(NoFile, desk, "attach", 0, file)
        self.assert_refused(NoTask, desk, "attach", 1, "a")


class DupTest(DeskTest):
    def test_the_same_mark_by_the_least_handle(self):
        desk = desk_of(1)
        desk.attach(0, "b")
        self.assertEqual(desk.dup(0, 1), 2)
        self.assertEqual(desk.handles(0), ((0, 0), (1, 1), (2, 1)))
        desk.close(0, 0)
        self.assertEqual(desk.dup(0, 2), 0)
        self.assertEqual(desk.handles(0), ((0, 1), (1, 1), (2, 1)))

    def test_at_a_number_that_leads_to_nothing(self):
        desk = desk_of(1)
        self.assertEqual(desk.dup(0, 0, at=5), 5)
        self.assertEqual(desk.dup(0, 5, at=2), 2)
        self.assertEqual(desk.dup(0, 2), 1)
        self.assertEqual(desk.handles(0), ((0, 0), (1, 0), (2, 0), (5, 0)))
        self.assertEqual(desk.mark(0), ("a", "both", (0,)))

    def test_at_0_is_a_number(self):
        desk = desk_of(1)
        desk.attach(0, "b")
        self.assertEqual(desk.dup(0, 1, at=0), 0)
        self.assertEqual(desk.handles(0), ((0, 1), (1, 1)))

    def test_at_another_mark_which_goes_with_all_that_it_holds(self):
        desk = desk_of(2)
        desk.attach(0, "b")
        desk.lock(0, 0, "alone", (0, 2))
        desk.lock(0, 0, "alone", (2, 4), by="mark")
        desk.lock_whole(0, 0, "alone")
        desk.lock(0, 1, "alone", (0, 2))
        self.assertEqual(desk.dup(0, 1, at=0), 0)
        self.assertEqual((desk.locks("a"), desk.whole_locks("a")), ((), ()))
        self.assertEqual(desk.locks("b"), ((0, 2, "alone", "task", 0),))
        self.assert_refused(NoMark, desk, "mark", 0)
        self.assertEqual(desk.mark(2), ("b", "both", (0,)))

    def test_at_another_mark_that_somebody_else_has_too(self):
        desk = desk_of(1)
        desk.fork(0)
        desk.attach(0, "b")
        desk.lock(0, 0, "alone", (0, 2), by="mark")
        desk.lock_whole(0, 0, "shared")
        desk.lock(0, 0, "alone", (4, 5))
        desk.dup(0, 1, at=0)
        self.assertEqual(desk.locks("a"), ((0, 2, "alone", "mark", 0),))
        self.assertEqual(desk.whole_locks("a"), ((0, "shared"),))
        self.assertEqual(desk.mark(0), ("a", "both", (1,)))

    def test_at_another_handle_of_the_same_mark(self):
        desk = desk_of(1)
        desk.dup(0, 0)
        desk.lock(0, 0, "alone", (0, 2))
        desk.lock(0, 0, "alone", (4, 5), by="mark")
        desk.lock_whole(0, 0, "alone")
        self.assertEqual(desk.dup(0, 0, at=1), 1)
        # Handle 1 is closed first, as close does: the task's own locks on the file go.
        self.assertEqual(desk.locks("a"), ((4, 5, "alone", "mark", 0),))
        self.assertEqual(desk.whole_locks("a"), ((0, "alone"),))
        self.assertEqual(desk.handles(0), ((0, 0), (1, 0)))

    def test_at_the_handle_itself_all_stays(self):
        desk = desk_of(1)
        desk.lock(0, 0, "alone", (0, 2))
        desk.lock(0, 0, "alone", (4, 5), by="mark")
        self.assertEqual(desk.dup(0, 0, at=0), 0)
        self.assertEqual(desk.locks("a"), ((0, 2, "alone", "task", 0), (4, 5, "alone", "mark", 0)))
        self.assertEqual(desk.handles(0), ((0, 0),))
        self.assertEqual(desk.deeds()[-1], ("dup", (0, 0, 0)))

    def test_asks_are_granted_behind_it(self):
        desk = desk_of(2)
        desk.attach(0, "b")
        desk.lock(0, 0, "alone", ALL)
        desk.lock(1, 0, "shared", (3, 4), wait=True)
        desk.dup(0, 1, at=0)
        self.assertEqual(desk.outcome(0), "granted")

    def test_refusals(self):
        desk = desk_of(1)
        self.assert_refused(NoTask, desk, "dup", 4, 0)
        self.assert_refused(NoHandle, desk, "dup", 0, 1)
        self.assert_refused(NoHandle, desk, "dup", 0, 1, at=1)
        self.assert_refused(NoHandle, desk, "dup", 0, 1, at=0)


class CloseTest(DeskTest):
    def test_the_handle_leads_to_nothing(self):
        desk = desk_of(1)
        desk.attach(0, "b")
        self.assertIsNone(desk.close(0, 0))
        self.assertEqual(desk.handles(0), ((1, 1),))
        self.assert_refused(NoHandle, desk, "close", 0, 0)
        self.assert_refused(NoMark, desk, "mark", 0)

    def test_any_handle_of_the_file_lets_go_of_the_locks_of_the_task(self):
        desk = desk_of(2)
        desk.attach(0, "a")
        desk.attach(0, "b")
        desk.lock(0, 0, "alone", (0, 3))
        desk.lock(0, 0, "shared", (5, None))
        desk.lock(0, 2, "alone", (0, 1))
        desk.lock(1, 0, "shared", (3, 6))
        desk.close(0, 1)
        self.assertEqual(desk.locks("a"), ((3, 6, "shared", "task", 1),))
        self.assertEqual(desk.locks("b"), ((0, 1, "alone", "task", 0),))

    def test_locks_of_the_mark_go_with_its_last_handle(self):
        desk = desk_of(2)
        desk.dup(0, 0)
        desk.lock(0, 0, "alone", (0, 3), by="mark")
        desk.lock_whole(0, 0, "shared")
        desk.lock(1, 0, "shared", (3, 4), by="mark")
        desk.lock_whole(1, 0, "shared")
        desk.close(0, 0)
        self.assertEqual(desk.locks("a"), ((0, 3, "alone", "mark", 0), (3, 4, "shared", "mark", 1)))
        self.assertEqual(desk.whole_locks("a"), ((0, "shared"), (1, "shared")))
        desk.close(0, 1)
        self.assertEqual(desk.locks("a"), ((3, 4, "shared", "mark", 1),))
        self.assertEqual(desk.whole_locks("a"), ((1, "shared"),))

    def test_another_mark_of_the_same_file_keeps_its_locks(self):
        desk = desk_of(1)
        desk.attach(0, "a")
        desk.lock(0, 1, "alone", (0, 3), by="mark")
        desk.lock_whole(0, 1, "alone")
        desk.close(0, 0)
        self.assertEqual(desk.locks("a"), ((0, 3, "alone", "mark", 1),))
        self.assertEqual(desk.whole_locks("a"), ((1, "alone"),))

    def test_a_mark_in_common_stays_with_the_others(self):
        desk = desk_of(1)
        desk.fork(0)
        desk.fork(1)
        desk.lock(0, 0, "alone", (0, 3), by="mark")
        desk.close(0, 0)
        self.assertEqual(desk.mark(0), ("a", "both", (1, 2)))
        desk.end(2)
        self.assertEqual(desk.locks("a"), ((0, 3, "alone", "mark", 0),))
        desk.close(1, 0)
        self.assertEqual(desk.locks("a"), ())
        self.assert_refused(NoMark, desk, "mark", 0)

    def test_a_mark_that_is_gone_does_not_come_back(self):
        desk = desk_of(1)
        desk.lock(0, 0, "alone", (0, 3), by="mark")
        desk.close(0, 0)
        self.assertEqual(desk.attach(0, "a"), 0)
        self.assertEqual(desk.handles(0), ((0, 1),))
        self.assertEqual(desk.locks("a"), ())


class ForkTest(DeskTest):
    def test_the_same_handles_to_the_same_marks(self):
        desk = desk_of(2)
        desk.attach(0, "b", mode="read")
        desk.dup(0, 1, at=7)
        self.assertEqual(desk.fork(0), 2)
        self.assertEqual(desk.handles(2), ((0, 0), (1, 2), (7, 2)))
        self.assertEqual(desk.handles(2), desk.handles(0))
        self.assertEqual(desk.mark(2), ("b", "read", (0, 2)))
        self.assertEqual(desk.mark(1), ("a", "both", (1,)))

    def test_it_holds_nothing_by_itself(self):
        desk = desk_of(1)
        desk.lock(0, 0, "alone", (0, 3))
        desk.lock(0, 0, "alone", (5, 6), by="mark")
        desk.fork(0)
        rows = ((0, 3, "alone", "task", 0), (5, 6, "alone", "mark", 0))
        self.assertEqual(desk.locks("a"), rows)
        self.assertEqual(desk.probe(1, 0, "shared", (0, 9)), rows[0])
        # By the mark in common it has what the mark has.
        self.assertIsNone(desk.lock(1, 0, "shared", (5, 6), by="mark"))
        self.assertEqual(desk.locks("a")[1], (5, 6, "shared", "mark", 0))

    def test_closing_in_the_one_leaves_the_other(self):
        desk = desk_of(1)
        desk.fork(0)
        desk.lock(0, 0, "shared", (0, 3))
        desk.lock(1, 0, "shared", (1, 4))
        desk.close(1, 0)
        self.assertEqual(desk.locks("a"), ((0, 3, "shared", "task", 0),))
        self.assertEqual((desk.handles(0), desk.handles(1)), (((0, 0),), ()))

    def test_refusals(self):
        desk = desk_of(2)
        self.assert_refused(NoTask, desk, "fork", 2)
        desk.lock(0, 0, "alone", ALL)
        desk.lock(1, 0, "alone", ALL, wait=True)
        self.assert_refused(Asleep, desk, "fork", 1)


class EndTest(DeskTest):
    def test_all_goes_with_the_task(self):
        desk = desk_of(2)
        desk.attach(0, "b")
        desk.lock(0, 0, "alone", (0, 3))
        desk.lock(0, 1, "alone", (0, 3), by="mark")
        desk.lock_whole(0, 1, "alone")
        desk.lock(1, 0, "alone", (3, 4))
        self.assertIsNone(desk.end(0))
        self.assertEqual(desk.tasks(), (1,))
        self.assertEqual((desk.locks("a"), desk.locks("b")), (((3, 4, "alone", "task", 1),), ()))
        self.assertEqual(desk.whole_locks("b"), ())
        for number in (0, 2):
            self.assert_refused(NoMark, desk, "mark", number)
        self.assert_refused(NoTask, desk, "end", 0)
        self.assert_refused(NoTask, desk, "handles", 0)
        self.assert_refused(NoTask, desk, "is_asleep", 0)

    def test_marks_in_common_stay(self):
        desk = desk_of(1)
        desk.fork(0)
        desk.lock(0, 0, "alone", (0, 3), by="mark")
        desk.lock(0, 0, "shared", (4, 5))
        desk.end(0)
        self.assertEqual(desk.locks("a"), ((0, 3, "alone", "mark", 0),))
        self.assertEqual(desk.mark(0), ("a", "both", (1,)))

    def test_a_task_that_waits_can_end(self):
        desk = desk_of(2)
        desk.lock(0, 0, "alone", ALL)
        desk.lock(1, 0, "alone", ALL, wait=True)
        desk.end(1)
        self.assertEqual((desk.asks(), desk.outcome(0), desk.tasks()), ((), "ended", (0,)))

    def test_its_asks_and_locks_make_way(self):
        desk = desk_of(3, fair=True)
        desk.lock(0, 0, "shared", (0, 5))
        desk.lock(1, 0, "alone", (0, 5), wait=True)
        desk.lock(2, 0, "shared", (0, 5), wait=True)
        desk.end(1)
        self.assertEqual(desk.outcome(1), "granted")
        self.assertEqual(desk.locks("a"), ((0, 5, "shared", "task", 0), (0, 5, "shared", "task", 2)))


class ToldTest(DeskTest):
    def test_asleep(self):
        desk = desk_of(2)
        desk.lock(0, 0, "alone", ALL)
        self.assertIs(desk.is_asleep(1), False)
        desk.lock(1, 0, "alone", ALL, wait=True)
        self.assertIs(desk.is_asleep(1), True)
        self.assertIs(desk.is_asleep(0), False)
        desk.unlock(0, 0, (0, 9))
        self.assertIs(desk.is_asleep(1), True)
        desk.unlock(0, 0, ALL)
        self.assertIs(desk.is_asleep(1), False)

    def test_handles_and_marks_of_a_task_that_waits(self):
        desk = desk_of(2)
        desk.lock(0, 0, "alone", ALL)
        desk.lock(1, 0, "alone", ALL, wait=True)
        self.assertEqual(desk.handles(1), ((0, 1),))
        self.assertEqual(desk.mark(1), ("a", "both", (1,)))

    def test_no_task_no_mark(self):
        desk = desk_of(2)
        # Truths are no whole numbers.
        for number in (2, -1, 10 ** 5000, True, False):
            for word in ("handles", "is_asleep", "fork", "end", "cancel"):
                self.assert_refused(NoTask, desk, word, number)
            self.assert_refused(NoTask, desk, "attach", number, "a")
            self.assert_refused(NoMark, desk, "mark", number)
            self.assert_refused(NoHandle, desk, "close", 0, number if number is not False else 1)
        self.assert_refused(NoHandle, desk, "close", 0, False)

    def test_kinds_of_what_is_told(self):
        desk = desk_of(2)
        for told in (desk.tasks(), desk.handles(0), desk.handles(0)[0], desk.mark(0), desk.mark(0)[2]):
            self.assertIs(type(told), tuple)
        for told in (desk.tasks()[0], desk.begin(), desk.attach(0, "a"), desk.dup(0, 0), desk.fork(0)):
            self.assertIs(type(told), int)


if __name__ == "__main__":
    unittest.main()
