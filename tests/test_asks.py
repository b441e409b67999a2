"""Points 4.1 to 4.4: asks, how they are granted, given up, and stuck; why, and ending."""

import unittest

from lockstretch.errors import Asleep, Awake, NoAsk, NoTask, Stuck
from small import ALL, DeskTest, desk_of


class WaitTest(DeskTest):
    def test_an_ask_is_told(self):
        def check(desk):
            desk.lock(0, 0, "alone", (0, 5))
            self.assertEqual(desk.lock(1, 0, "shared", (3, None), wait=True), 0)
            self.assertEqual(desk.lock(2, 0, "alone", (0, 1), by="mark", wait=True), 1)
            self.assertEqual(desk.asks(), (
                (0, 1, "a", "shared", (3, None), "task", 1), (1, 2, "a", "alone", (0, 1), "mark", 2),
            ))
            self.assertEqual((desk.outcome(0), desk.outcome(1)), ("waits", "waits"))
            self.assertEqual(desk.locks("a"), ((0, 5, "alone", "task", 0),))
        self.assert_both_sorts(check, 3)

    def test_the_holder_of_an_ask_by_a_mark_in_common(self):
        desk = desk_of(1)
        desk.fork(0)
        desk.begin()
        desk.attach(2, "a")
        desk.lock(2, 0, "alone", ALL)
        desk.lock(1, 0, "alone", (0, 1), by="mark", wait=True)
        self.assertEqual(desk.asks(), ((0, 1, "a", "alone", (0, 1), "mark", 0),))

    def test_what_nothing_blocks_does_not_wait(self):
        def check(desk):
            self.assertIsNone(desk.lock(0, 0, "alone", (0, 5), wait=True))
            self.assertIsNone(desk.lock(1, 0, "alone", (5, 6), wait=True))
            self.assertEqual(desk.asks(), ())
            self.assert_refused(NoAsk, desk, "outcome", 0)
        self.assert_both_sorts(check, 2)

    def test_a_task_that_waits_does_nothing_but_end_and_cancel(self):
        desk = desk_of(2)
        desk.lock(0, 0, "alone", (0, 5))
        desk.lock(1, 0, "alone", (0, 5), wait=True)
        for word, *values in (
            ("attach", "a"), ("dup", 0), ("close", 0), ("fork",), ("lock", 0, "alone", (8, 9)),
            ("unlock", 0, (0, 1)), ("lock_whole", 0, "shared"), ("unlock_whole", 0),
        ):
            self.assert_refused(Asleep, desk, word, 1, *values)
        self.assertIsNone(desk.cancel(1))
        self.assertIsNone(desk.lock(1, 0, "alone", (8, 9)))


class CancelTest(DeskTest):
    def test_the_ask_is_given_up(self):
        desk = desk_of(2)
        desk.lock(0, 0, "alone", (0, 5))
        desk.lock(1, 0, "alone", (0, 5), wait=True)
        self.assertIsNone(desk.cancel(1))
        self.assertEqual((desk.asks(), desk.outcome(0), desk.is_asleep(1)), ((), "cancelled", False))
        desk.end(0)
        self.assertEqual((desk.locks("a"), desk.outcome(0)), ((), "cancelled"))

    def test_younger_asks_are_granted_behind_it(self):
        desk = desk_of(3, fair=True)
        desk.lock(0, 0, "shared", (0, 5))
        desk.lock(1, 0, "alone", (0, 5), wait=True)
        desk.lock(2, 0, "shared", (0, 5), wait=True)
        desk.cancel(1)
        self.assertEqual((desk.outcome(0), desk.outcome(1)), ("cancelled", "granted"))

    def test_refusals(self):
        desk = desk_of(1)
        self.assert_refused(Awake, desk, "cancel", 0)
        self.assert_refused(NoTask, desk, "cancel", 1)


class GrantTest(DeskTest):
    def test_by_each_deed_that_makes_way(self):
        for word, *values in (
            ("unlock", 0, 0, (0, 5)), ("close", 0, 0), ("end", 0), ("lock", 0, 0, "shared", (0, 5)),
        ):
            desk = desk_of(2)
            desk.lock(0, 0, "alone", (0, 5))
            desk.lock(1, 0, "shared", (3, 4), wait=True)
            getattr(desk, word)(*values)
            self.assertEqual((desk.asks(), desk.outcome(0), desk.is_asleep(1)), ((), "granted", False), word)
            self.assertIn((3, 4, "shared", "task", 1), desk.locks("a"))

    def test_not_as_long_as_one_cell_is_held(self):
        desk = desk_of(2)
        desk.lock(0, 0, "alone", (0, 5))
        desk.lock(1, 0, "alone", (2, 9), wait=True)
        desk.unlock(0, 0, (0, 4))
        self.assertEqual(desk.outcome(0), "waits")
        desk.unlock(0, 0, (4, 5))
        self.assertEqual(desk.locks("a"), ((2, 9, "alone", "task", 1),))

    def test_in_order(self):
        def check(desk):
            desk.lock(0, 0, "alone", (0, 5))
            desk.lock(2, 0, "alone", (0, 5), wait=True)
            desk.lock(1, 0, "alone", (0, 5), wait=True)
            desk.lock(3, 0, "alone", (7, 9))
            desk.end(0)
            self.assertEqual((desk.outcome(0), desk.outcome(1)), ("granted", "waits"))
            desk.end(2)
            self.assertEqual(desk.outcome(1), "granted")
        self.assert_both_sorts(check, 4)

    def test_several_at_once(self):
        def check(desk):
            desk.lock(0, 0, "alone", (0, 5))
            for task in (3, 1, 2):
                desk.lock(task, 0, "shared", (task, 5), wait=True)
            desk.end(0)
            self.assertEqual([desk.outcome(number) for number in range(3)], ["granted"] * 3)
            self.assertEqual([row[4] for row in desk.locks("a")], [1, 2, 3])
        self.assert_both_sorts(check, 4)

    def test_past_an_elder_one_but_not_in_a_fair_desk(self):
        for fair in (False, True):
            desk = desk_of(4, fair=fair)
            desk.lock(0, 0, "shared", (0, 2))
            desk.lock(3, 0, "alone", (4, 5))
            desk.lock(1, 0, "alone", (0, 4), wait=True)
            desk.lock(2, 0, "shared", (3, 5), wait=True)
            desk.unlock(3, 0, ALL)
            self.assertEqual((desk.outcome(0), desk.outcome(1)), ("waits", "waits" if fair else "granted"))

    def test_past_an_elder_one_that_it_does_not_keep_off(self):
        def check(desk):
            desk.lock(0, 0, "shared", (0, 2))
            desk.lock(3, 0, "alone", (4, 5))
            desk.lock(1, 0, "alone", (0, 4), wait=True)
            desk.lock(2, 0, "shared", (4, 5), wait=True)
            desk.unlock(3, 0, ALL)
            self.assertEqual((desk.outcome(0), desk.outcome(1)), ("waits", "granted"))
        self.assert_both_sorts(check, 4)

    def test_a_granted_ask_takes_the_place_of_what_the_holder_had(self):
        desk = desk_of(2)
        desk.fork(0)
        desk.lock(0, 0, "alone", (0, 4), by="mark")
        desk.lock(1, 0, "alone", (6, 8))
        desk.lock(2, 0, "shared", (2, 8), by="mark", wait=True)
        desk.end(1)
        self.assertEqual(desk.locks("a"), ((0, 2, "alone", "mark", 0), (2, 8, "shared", "mark", 0)))

    def test_a_granted_ask_can_make_way_for_an_elder_one(self):
        desk = desk_of(3)
        desk.fork(0)
        desk.lock(0, 0, "alone", (0, 4), by="mark")
        desk.lock(1, 0, "alone", (6, 8))
        self.assertEqual(desk.lock(2, 0, "shared", (2, 3), wait=True), 0)
        self.assertEqual(desk.lock(3, 0, "shared", (2, 8), by="mark", wait=True), 1)
        desk.end(1)
        self.assertEqual((desk.outcome(0), desk.outcome(1), desk.asks()), ("granted", "granted", ()))

    def test_a_lock_by_a_task_wakes_no_one_for_whom_it_is_not(self):
        desk = desk_of(3)
        desk.lock(0, 0, "alone", (0, 5))
        desk.lock(1, 0, "alone", (0, 5), wait=True)
        desk.lock(2, 0, "alone", (5, 6))
        self.assertEqual(desk.outcome(0), "waits")


class OutcomeTest(DeskTest):
    def test_each(self):
        desk = desk_of(5)
        desk.lock(0, 0, "alone", (0, 5))
        for task in (1, 2, 3, 4):
            desk.lock(task, 0, "alone", (0, 5), wait=True)
        desk.end(1)
        desk.cancel(2)
        desk.end(0)
        self.assertEqual([desk.outcome(k) for k in range(4)], ["ended", "cancelled", "granted", "waits"])
        desk.end(3)
        self.assertEqual([desk.outcome(k) for k in range(4)], ["ended", "cancelled", "granted", "granted"])

    def test_no_ask(self):
        desk = desk_of(2)
        for number in (0, -1, 5, True, False, 10 ** 5000):
            self.assert_refused(NoAsk, desk, "outcome", number)
            self.assert_refused(NoAsk, desk, "why", number)
        desk.lock(0, 0, "alone", (0, 5))
        desk.lock(1, 0, "alone", (0, 5), wait=True)
        self.assert_refused(NoAsk, desk, "outcome", 1)
        self.assert_refused(NoAsk, desk, "outcome", -1)
        self.assert_refused(NoAsk, desk, "outcome", False)

    def test_a_number_of_a_refused_ask_is_not_used_up(self):
        desk = desk_of(2)
        desk.lock(0, 0, "alone", (0, 1))
        desk.lock(1, 0, "alone", (1, 2))
        self.assertEqual(desk.lock(0, 0, "alone", (1, 2), wait=True), 0)
        self.assert_refused(Stuck, desk, "lock", 1, 0, "alone", (0, 1), wait=True)
        self.assert_refused(NoAsk, desk, "outcome", 1)
        desk.cancel(0)
        self.assertEqual(desk.lock(1, 0, "alone", (0, 1), wait=True), 1)


class WhyTest(DeskTest):
    def test_all_locks_then_elder_asks(self):
        for fair in (False, True):
            desk = desk_of(5, fair=fair)
            desk.lock(0, 0, "shared", (4, None))
            desk.lock(1, 0, "shared", (4, 6))
            desk.lock(1, 0, "shared", (0, 1), by="mark")
            desk.lock(2, 0, "alone", (5, 9), wait=True)
            desk.lock(3, 0, "alone", (0, 1), wait=True)
            desk.lock(4, 0, "alone", ALL, wait=True)
            rows = ((0, 1, "shared", "mark", 1), (4, 6, "shared", "task", 1), (4, None, "shared", "task", 0))
            self.assertEqual(desk.why(0), rows[1:])
            self.assertEqual(desk.why(1), rows[:1])
            self.assertEqual(desk.why(2), rows + ((0, 1) if fair else ()))

    def test_elder_asks_alone(self):
        desk = desk_of(3, fair=True)
        desk.lock(0, 0, "shared", (0, 2))
        desk.lock(1, 0, "alone", (0, 6), wait=True)
        desk.lock(2, 0, "shared", (3, 6), wait=True)
        self.assertEqual(desk.why(1), (0,))

    def test_no_ask_that_waits(self):
        desk = desk_of(3)
        desk.lock(0, 0, "alone", (0, 5))
        desk.lock(1, 0, "alone", (0, 5), wait=True)
        desk.lock(2, 0, "alone", (0, 5), wait=True)
        desk.cancel(1)
        desk.end(0)
        for number in (0, 1, 2, -1):
            self.assert_refused(NoAsk, desk, "why", number)


class StuckTest(DeskTest):
    def test_a_ring_of_two(self):
        def check(desk):
            desk.lock(0, 0, "alone", (0, 1))
            desk.lock(1, 0, "alone", (1, 2))
            desk.lock(0, 0, "shared", (1, 2), wait=True)
            self.assert_refused(Stuck, desk, "lock", 1, 0, "shared", (0, 1), wait=True)
            self.assertEqual(desk.outcome(0), "waits")
        self.assert_both_sorts(check, 2)

    def test_rings_of_many(self):
        for many in range(2, 7):
            desk = desk_of(many)
            for task in range(many):
                desk.lock(task, 0, "alone", (task, task + 1))
            for task in range(many - 1):
                desk.lock(task, 0, "alone", (task + 1, task + 2), wait=True)
            self.assert_refused(Stuck, desk, "lock", many - 1, 0, "alone", (0, 1), wait=True)
            self.assertEqual(desk.ending(), tuple(range(many))[::-1])

    def test_a_chain_is_no_ring(self):
        desk = desk_of(6)
        for task in range(6):
            desk.lock(task, 0, "alone", (task, task + 1))
        for task in range(5):
            desk.lock(task, 0, "alone", (task + 1, task + 2), wait=True)
        self.assertEqual(len(desk.asks()), 5)

    def test_a_ring_over_two_files(self):
        desk = desk_of(2)
        for task in range(2):
            desk.attach(task, "b")
        desk.lock(0, 0, "alone", ALL)
        desk.lock(1, 1, "alone", ALL)
        desk.lock(0, 1, "alone", (0, 1), wait=True)
        self.assert_refused(Stuck, desk, "lock", 1, 0, "alone", (7, 8), wait=True)

    def test_a_ring_over_stretches_and_whole_files(self):
        desk = desk_of(2)
        desk.lock(0, 0, "alone", (0, 1))
        desk.lock_whole(1, 0, "alone")
        desk.lock_whole(0, 0, "shared", wait=True)
        self.assert_refused(Stuck, desk, "lock", 1, 0, "alone", (0, 1), wait=True)

    def test_two_that_share_and_both_would_have_it_alone(self):
        def check(desk):
            desk.lock(0, 0, "shared", (0, 5))
            desk.lock(1, 0, "shared", (0, 5))
            self.assertEqual(desk.lock(0, 0, "alone", (0, 5), wait=True), 0)
            self.assert_refused(Stuck, desk, "lock", 1, 0, "alone", (0, 5), wait=True)
            desk.unlock(1, 0, (0, 5))
            self.assertEqual(desk.locks("a"), ((0, 5, "alone", "task", 0),))
        self.assert_both_sorts(check, 2)

    def test_a_task_that_waits_for_its_own_mark(self):
        def check(desk):
            desk.lock(0, 0, "alone", (0, 5), by="mark")
            self.assert_refused(Stuck, desk, "lock", 0, 0, "alone", (0, 5), wait=True)
            desk.unlock(0, 0, ALL, by="mark")
            desk.lock(0, 0, "alone", (0, 5))
            self.assert_refused(Stuck, desk, "lock", 0, 0, "alone", (0, 5), by="mark", wait=True)
        self.assert_both_sorts(check, 1)

    def test_a_mark_that_somebody_else_has_too_can_go(self):
        def check(desk):
            desk.fork(0)
            desk.lock(0, 0, "alone", (0, 5), by="mark")
            self.assertEqual(desk.lock(0, 0, "alone", (0, 5), wait=True), 0)
            self.assertEqual(desk.why(0), ((0, 5, "alone", "mark", 0),))
            # Task 1, which could let go, would wait for the same.
            self.assert_refused(Stuck, desk, "lock", 1, 0, "shared", (0, 5), wait=True)
            desk.unlock(1, 0, (0, 5), by="mark")
            self.assertEqual(desk.outcome(0), "granted")
        self.assert_both_sorts(check, 1)

    def test_what_becomes_stuck_when_somebody_closes_the_mark(self):
        for word, *values in (("close", 1, 0), ("end", 1), ("dup", 1, 1)):
            for fair in (False, True):
                desk = desk_of(1, fair=fair)
                desk.fork(0)
                desk.attach(1, "b")
                desk.lock(0, 0, "alone", (0, 5), by="mark")
                desk.lock(0, 0, "alone", (0, 5), wait=True)
                getattr(desk, word)(*values, **({"at": 0} if word == "dup" else {}))
                self.assertEqual((desk.outcome(0), desk.asks(), desk.is_asleep(0)), ("stuck", (), False), word)
                self.assertEqual(desk.locks("a"), ((0, 5, "alone", "mark", 0),))

    def test_of_several_that_are_stuck_the_youngest_is_given_up_first(self):
        desk = desk_of(1)
        desk.fork(0)
        desk.fork(0)
        desk.lock(0, 0, "alone", (0, 5), by="mark")
        desk.lock(1, 0, "alone", (0, 3), wait=True)
        desk.lock(0, 0, "alone", (2, 5), wait=True)
        desk.close(2, 0)
        # With the youngest given up its task is awake, and the elder one has somebody to wait for.
        self.assertEqual((desk.outcome(0), desk.outcome(1)), ("waits", "stuck"))
        self.assertFalse(desk.is_asleep(0))
        desk.end(0)
        self.assertEqual(desk.outcome(0), "stuck")

    def test_the_youngest_that_is_stuck_not_the_youngest(self):
        desk = desk_of(3)
        desk.fork(0)
        desk.lock(0, 0, "alone", (0, 5), by="mark")
        desk.lock(1, 0, "alone", (7, 9))
        desk.lock(0, 0, "alone", (0, 5), wait=True)
        desk.lock(2, 0, "alone", (7, 9), wait=True)
        desk.end(3)
        self.assertEqual((desk.outcome(0), desk.outcome(1)), ("stuck", "waits"))

    def test_given_up_ahead_of_granting(self):
        # Task 1 ends: with it goes what blocks ask 1, but ask 0 is left stuck and given up first.
        desk = desk_of(1)
        desk.fork(0)
        desk.begin()
        desk.attach(2, "a")
        desk.lock(0, 0, "alone", (0, 2), by="mark")
        desk.lock(1, 0, "alone", (3, 5))
        desk.lock(0, 0, "alone", (0, 4), wait=True)
        desk.lock(2, 0, "alone", (3, 5), wait=True)
        desk.end(1)
        self.assertEqual((desk.outcome(0), desk.outcome(1)), ("stuck", "granted"))

    def test_by_elder_asks_in_a_fair_desk(self):
        desk = desk_of(3, fair=True)
        desk.lock(0, 0, "shared", (0, 2))
        desk.lock(1, 0, "alone", (5, 6))
        desk.lock(1, 0, "alone", (0, 4), wait=True)
        # Task 0 would wait for ask 0, whose task waits for task 0.
        self.assert_refused(Stuck, desk, "lock", 0, 0, "shared", (3, 4), wait=True)
        self.assertEqual(desk.lock(2, 0, "shared", (3, 4), wait=True), 1)
        plain = desk_of(3)
        plain.lock(0, 0, "shared", (0, 2))
        plain.lock(1, 0, "alone", (0, 4), wait=True)
        self.assertIsNone(plain.lock(0, 0, "shared", (3, 4), wait=True))

    def test_held_stands_where_nobody_waits(self):
        desk = desk_of(2)
        desk.lock(0, 0, "alone", (0, 1))
        desk.lock(1, 0, "alone", (1, 2))
        desk.lock(0, 0, "shared", (1, 2), wait=True)
        self.assertEqual(desk.probe(1, 0, "shared", (0, 1)), (0, 1, "alone", "task", 0))

    def test_all_that_blocks_must_be_able_to_go(self):
        # Two marks hold the cells; one has a free task, the other only the task that would wait.
        desk = desk_of(2)
        desk.lock(0, 0, "shared", (0, 5), by="mark")
        desk.lock(1, 0, "shared", (0, 5), by="mark")
        self.assert_refused(Stuck, desk, "lock", 0, 0, "alone", (0, 5), wait=True)
        desk.fork(0)
        self.assertEqual(desk.lock(0, 0, "alone", (0, 5), wait=True), 0)
        desk.end(2)
        self.assertEqual(desk.outcome(0), "stuck")


class EndingTest(DeskTest):
    def test_rising_where_nobody_waits(self):
        desk = desk_of(3)
        desk.end(1)
        desk.begin()
        self.assertEqual(desk.ending(), (0, 2, 3))

    def test_those_that_wait_behind_those_for_whom_they_wait(self):
        def check(desk):
            desk.lock(2, 0, "alone", (0, 5))
            desk.lock(0, 0, "alone", (0, 5), wait=True)
            desk.lock(1, 0, "alone", (4, 5), wait=True)
            self.assertEqual(desk.ending(), (2, 0, 1, 3))
        self.assert_both_sorts(check, 4)

    def test_the_least_of_those_awake_then(self):
        desk = desk_of(4)
        desk.lock(1, 0, "alone", (0, 5))
        desk.lock(0, 0, "alone", (0, 5), wait=True)
        self.assertEqual(desk.ending(), (1, 0, 2, 3))
        desk.lock(3, 0, "alone", (7, 9))
        desk.lock(1, 0, "alone", (7, 9), wait=True)
        self.assertEqual(desk.ending(), (2, 3, 1, 0))

    def test_stuck_ones_wake_too(self):
        desk = desk_of(1)
        desk.fork(0)
        desk.lock(0, 0, "alone", (0, 5), by="mark")
        desk.lock(0, 0, "alone", (0, 5), wait=True)
        self.assertEqual(desk.ending(), (1, 0))

    def test_it_changes_nothing(self):
        desk = desk_of(3, fair=True)
        desk.lock(2, 0, "alone", (0, 5))
        desk.lock_whole(2, 0, "shared")
        desk.lock(0, 0, "alone", (0, 5), by="mark", wait=True)
        desk.begin()
        desk.back()
        ahead = [desk.locks("a"), desk.whole_locks("a"), desk.asks(), desk.counts(), desk.deeds(), str(desk)]
        self.assertEqual(desk.ending(), desk.ending())
        self.assertEqual(
            [desk.locks("a"), desk.whole_locks("a"), desk.asks(), desk.counts(), desk.deeds(), str(desk)], ahead,
        )
        self.assertEqual(desk.again(), "begin")
        self.assertEqual(desk.begin(), 4)

    def test_no_task(self):
        desk = desk_of(1)
        desk.end(0)
        self.assertEqual(desk.ending(), ())


if __name__ == "__main__":
    unittest.main()
