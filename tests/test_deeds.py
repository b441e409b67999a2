"""Points 6.1 and 6.2: deeds, back and again, counts; ==, len and str."""

import unittest

from lockstretch.desks import Desk
from lockstretch.errors import Held, NoBack, NoHandle, NoTask, Stuck
from lockstretch.writing import desk_text
from small import ALL, DeskTest, desk_of, state_of


def one_of_each(desk):
    """One deed of each word, what can be left out left out."""
    desk.begin()
    desk.attach(0, "a")
    desk.dup(0, 0)
    desk.lock(0, 0, "alone", (0, 5))
    desk.lock_whole(0, 0, "shared")
    desk.fork(0)
    desk.lock(1, 0, "shared", (3, None), wait=True)
    desk.cancel(1)
    desk.unlock(0, 0, (0, 1))
    desk.unlock_whole(0, 0)
    desk.close(0, 1)
    desk.end(1)


class DeedsTest(DeskTest):
    def test_words_and_all_values(self):
        desk = Desk(("a",))
        one_of_each(desk)
        self.assertEqual(desk.deeds(), (
            ("begin", ()),
            ("attach", (0, "a", "both")),
            ("dup", (0, 0, None)),
            ("lock", (0, 0, "alone", (0, 5), "task", False)),
            ("lock_whole", (0, 0, "shared", False)),
            ("fork", (0,)),
            ("lock", (1, 0, "shared", (3, None), "task", True)),
            ("cancel", (1,)),
            ("unlock", (0, 0, (0, 1), "task")),
            ("unlock_whole", (0, 0)),
            ("close", (0, 1)),
            ("end", (1,)),
        ))
        self.assertEqual(desk.counts(), (12, 0))

    def test_values_that_are_handed_in(self):
        desk = desk_of(2)
        desk.attach(mode="write", file="b", task=0)
        desk.dup(handle=0, task=0, at=4)
        desk.lock(wait=True, by="mark", stretch=(1, 2), kind="alone", handle=0, task=0)
        desk.unlock(by="mark", stretch=(0, 1), handle=0, task=0)
        desk.lock_whole(wait=True, kind="alone", handle=0, task=0)
        self.assertEqual(desk.deeds()[4:], (
            ("attach", (0, "b", "write")),
            ("dup", (0, 0, 4)),
            ("lock", (0, 0, "alone", (1, 2), "mark", True)),
            ("unlock", (0, 0, (0, 1), "mark")),
            ("lock_whole", (0, 0, "alone", True)),
        ))

    def test_refused_ones_and_questions_are_no_deeds(self):
        desk = desk_of(2)
        desk.lock(0, 0, "alone", (0, 5))
        many = desk.counts()
        self.assert_refused(Held, desk, "lock", 1, 0, "alone", (0, 5))
        self.assert_refused(NoTask, desk, "close", 5, 0)
        self.assert_refused(NoHandle, desk, "unlock", 0, 5, ALL)
        for word, *values in (
            ("tasks",), ("handles", 0), ("mark", 0), ("is_asleep", 0), ("probe", 0, 0, "alone", ALL), ("locks", "a"),
            ("asks",), ("ending",), ("whole_locks", "a"), ("may", 0, 0, "read", ALL), ("deeds",), ("counts",),
        ):
            getattr(desk, word)(*values)
        self.assertEqual(desk.counts(), many)


class BackTest(DeskTest):
    def test_back_and_again_over_one_of_each(self):
        for fair in (False, True):
            states = []
            desk = Desk(("a",), fair=fair)
            full = Desk(("a",), fair=fair)
            one_of_each(full)
            for word, values in full.deeds():
                states.append(state_of(desk)[0])
                desk.do(word, values)
            words = [word for word, values in full.deeds()]
            last = state_of(desk)
            for at in range(len(words) - 1, -1, -1):
                self.assertEqual(desk.back(), words[at])
                told = state_of(desk)[0]
                self.assertEqual(told.pop("counts"), (at, len(words) - at))
                states[at].pop("counts")
                self.assertEqual(told, states[at])
            self.assert_refused(NoBack, desk, "back")
            for at, word in enumerate(words):
                self.assertEqual(desk.again(), word)
                self.assertEqual(desk.counts(), (at + 1, len(words) - at - 1))
            self.assertEqual(state_of(desk), last)
            self.assert_refused(NoBack, desk, "again")
            self.assertEqual(desk, full)

    def test_nothing_to_take_back(self):
        desk = Desk(("a",))
        self.assert_refused(NoBack, desk, "back")
        self.assert_refused(NoBack, desk, "again")
        desk.begin()
        self.assert_refused(NoBack, desk, "again")

    def test_again_not_behind_another_deed(self):
        desk = desk_of(2)
        desk.back()
        self.assertEqual(desk.counts(), (3, 1))
        desk.begin()
        self.assertEqual(desk.counts(), (4, 0))
        self.assert_refused(NoBack, desk, "again")

    def test_again_behind_refused_ones(self):
        desk = desk_of(2)
        desk.lock(0, 0, "alone", (0, 1))
        desk.lock(1, 0, "alone", (1, 2))
        desk.lock(0, 0, "alone", (1, 2), wait=True)
        desk.begin()
        desk.back()
        self.assert_refused(Stuck, desk, "lock", 1, 0, "alone", (0, 1), wait=True)
        self.assert_refused(Held, desk, "lock", 1, 0, "alone", (0, 1))
        self.assert_refused(NoTask, desk, "end", 2)
        self.assertEqual(desk.again(), "begin")
        self.assertEqual(desk.tasks(), (0, 1, 2))

    def test_the_last_one_first_and_forth_in_order(self):
        desk = desk_of(1)
        desk.lock(0, 0, "alone", (0, 1))
        desk.unlock(0, 0, (0, 1))
        self.assertEqual([desk.back(), desk.back(), desk.back()], ["unlock", "lock", "attach"])
        self.assertEqual([desk.again(), desk.again()], ["attach", "lock"])
        self.assertEqual(desk.locks("a"), ((0, 1, "alone", "task", 0),))
        self.assertEqual(desk.back(), "lock")
        self.assertEqual([desk.again(), desk.again()], ["lock", "unlock"])
        self.assertEqual(desk.counts(), (4, 0))

    def test_numbers_come_again(self):
        desk = desk_of(2)
        desk.lock(0, 0, "alone", ALL)
        self.assertEqual(desk.lock(1, 0, "alone", ALL, wait=True), 0)
        desk.back()
        self.assertEqual((desk.asks(), desk.is_asleep(1)), ((), False))
        self.assertEqual(desk.begin(), 2)
        self.assertEqual(desk.lock(1, 0, "shared", ALL, wait=True), 0)
        desk.end(0)
        self.assertEqual(desk.outcome(0), "granted")
        desk.back()
        self.assertEqual((desk.outcome(0), desk.is_asleep(1)), ("waits", True))
        self.assertEqual(desk.locks("a"), ((0, None, "alone", "task", 0),))

    def test_what_was_granted_and_given_up_comes_back_too(self):
        desk = desk_of(1)
        desk.fork(0)
        desk.attach(1, "b")
        desk.begin()
        desk.attach(2, "a")
        desk.lock(0, 0, "alone", (0, 5), by="mark")
        desk.lock(1, 0, "alone", (8, 9))
        desk.lock(0, 0, "alone", (0, 5), wait=True)
        desk.lock(2, 0, "alone", (8, 9), wait=True)
        ahead = state_of(desk)[0]
        desk.end(1)
        self.assertEqual((desk.outcome(0), desk.outcome(1)), ("stuck", "granted"))
        behind = state_of(desk)
        desk.back()
        told = state_of(desk)[0]
        self.assertEqual((told.pop("counts"), ahead.pop("counts")), ((10, 1), (10, 0)))
        self.assertEqual(told, ahead)
        desk.again()
        self.assertEqual(state_of(desk), behind)


class EqualTest(DeskTest):
    def test_files_and_fairness(self):
        self.assertTrue(Desk(("a", "b")) == Desk(("a", "b")))
        self.assertIs(Desk(("a", "b")) == Desk(("a", "b")), True)
        self.assertIs(Desk(("a", "b")) != Desk(("a", "b")), False)
        self.assertIs(Desk(("a", "b")) == Desk(("a",)), False)
        self.assertIs(Desk(("a",)) == Desk(("a",), fair=True), False)
        self.assertIs(Desk(("a",), fair=False) == Desk(("a",)), True)

    def test_deeds_and_those_that_can_be_done_again(self):
        one, other = desk_of(2), desk_of(2)
        self.assertIs(one == other, True)
        one.begin()
        self.assertIs(one == other, False)
        one.back()
        self.assertIs(one == other, False)
        self.assertEqual(one.deeds(), other.deeds())
        other.begin()
        other.back()
        self.assertIs(one == other, True)
        other.begin()
        other.lock(0, 0, "alone", (0, 1))
        other.back()
        other.back()
        self.assertIs(one == other, False)
        one.fork(0)
        one.back()
        other.begin()
        other.back()
        self.assertIs(one == other, False)

    def test_the_order_of_those_that_can_be_done_again(self):
        one, other = desk_of(1), desk_of(1)
        for desk, stretches in ((one, ((0, 1), (1, 2))), (other, ((1, 2), (0, 1)))):
            for stretch in stretches:
                desk.lock(0, 0, "alone", stretch)
            desk.back()
            desk.back()
        self.assertIs(one == other, False)

    def test_the_same_locks_by_other_deeds_are_another_desk(self):
        one, other = desk_of(1), desk_of(1)
        one.lock(0, 0, "alone", (0, 2))
        other.lock(0, 0, "alone", (0, 1))
        other.lock(0, 0, "alone", (1, 2))
        self.assertEqual(one.locks("a"), other.locks("a"))
        self.assertIs(one == other, False)

    def test_other_things(self):
        desk = Desk(())
        for thing in (None, 0, "", "desk\n", (), ("desk",), desk_text(desk), object(), Desk, True):
            self.assertIs(desk == thing, False)
            self.assertIs(thing == desk, False)
            self.assertIs(desk != thing, True)


class CountTest(DeskTest):
    def test_len(self):
        desk = Desk(("a",))
        self.assertEqual(len(desk), 0)
        for task in range(3):
            desk.begin()
        self.assertEqual(len(desk), 3)
        desk.end(1)
        self.assertEqual(len(desk), 2)
        desk.fork(0)
        self.assertEqual(len(desk), 3)

    def test_str(self):
        desk = desk_of(4)
        self.assertEqual(str(desk), "4 tasks, 0 locks, 0 asks")
        desk.attach(0, "b")
        desk.lock(0, 0, "alone", (0, 9))
        self.assertEqual(str(desk), "4 tasks, 1 locks, 0 asks")
        desk.lock(0, 0, "shared", (3, 4))
        desk.lock(0, 1, "shared", (3, 4))
        self.assertEqual(str(desk), "4 tasks, 4 locks, 0 asks")
        desk.lock_whole(0, 1, "shared")
        desk.lock_whole(0, 0, "alone")
        self.assertEqual(str(desk), "4 tasks, 6 locks, 0 asks")
        desk.lock(1, 0, "alone", (0, 9), wait=True)
        desk.lock_whole(2, 0, "alone", wait=True)
        self.assertEqual(str(desk), "4 tasks, 6 locks, 2 asks")
        desk.end(0)
        self.assertEqual(str(desk), "3 tasks, 2 locks, 0 asks")


if __name__ == "__main__":
    unittest.main()
