"""Rows of deeds of all sorts, drawn at random, held behind each deed against plain tables of cells."""

import collections
import unittest

from lockstretch.desks import Desk
from lockstretch.writing import desk_text, read_desk
from plain_desk import cells_of
from rows import Pair, answer_of, call, told_by_desk

WAITED = ("granted", "cancelled", "ended", "stuck")


def copied(desk):
    """A desk of its own with the same deeds."""
    return read_desk(desk_text(desk))


class RowsTest(unittest.TestCase):
    def each_pair(self, many, **settings):
        for seed in range(many):
            files = (("a",), ("a", "b"))[seed // 2 % 2]
            yield seed, Pair(seed, files=files, fair=seed % 2 == 1, **settings)

    def assert_same_told(self, pair, place):
        told, wanted = pair.both_told()
        for name in wanted:
            self.assertEqual(told[name], wanted[name], (name, place, desk_text(pair.desk)))

    def test_all_that_is_told_behind_each_deed(self):
        seen = collections.Counter()
        for seed, pair in self.each_pair(160):
            for at in range(60):
                word, values, told, wanted = pair.step()
                place = (seed, at, word, values)
                self.assertEqual(told, wanted, place)
                self.assert_same_told(pair, place)
                seen[(word,) + (told[:2] if told[0] == "refused" else (told[1] is None,))] += 1
            seen.update(pair.plain.now.outcomes)
            seen["given up behind a deed"] += pair.plain.given_up
        # Rows in which nobody waits, or none is stuck, would show nothing.
        for word in WAITED + ("given up behind a deed", ("lock", "refused", "Stuck"), ("lock", "refused", "Held"),
                              ("lock_whole", "refused", "Held"), ("lock_whole", "refused", "Stuck"),
                              ("lock", False), ("lock_whole", False), ("again", False), ("dup", False)):
            self.assertGreater(seen[word], 9, word)

    def test_rows_with_many_wrong_values(self):
        seen = collections.Counter()
        for seed, pair in self.each_pair(120, wrong=0.15):
            for at in range(60):
                ahead = pair.both_told()[0]
                text = desk_text(pair.desk)
                word, values, told, wanted = pair.step()
                self.assertEqual(told, wanted, (seed, at, word, values))
                if told[0] == "refused":
                    seen[told[1]] += 1
                    self.assertEqual(pair.both_told()[0], ahead, (seed, at, word, values))
                    self.assertEqual(desk_text(pair.desk), text)
            self.assert_same_told(pair, seed)
        for name in ("NoTask", "Asleep", "Awake", "NoHandle", "NoFile", "BadMode", "BadKind", "BadStretch", "Held",
                     "Stuck", "NoBack"):
            self.assertGreater(seen[name], 9, name)

    def test_cells_of_unlike_holders_and_locks_as_long_as_can_be(self):
        for seed, pair in self.each_pair(80):
            for at in range(60):
                pair.step()
                for file in pair.desk.files:
                    self.assert_cells_apart(pair.desk.locks(file))
                    self.assert_long_and_rising(pair.desk.locks(file))

    def assert_cells_apart(self, rows):
        for one in rows:
            for other in rows:
                if one != other and cells_of(one[:2]) & cells_of(other[:2]):
                    self.assertNotEqual(one[3:], other[3:])
                    self.assertEqual((one[2], other[2]), ("shared", "shared"))

    def assert_long_and_rising(self, rows):
        order = [(first, end is None, end or 0, kind, by, number) for first, end, kind, by, number in rows]
        self.assertEqual(order, sorted(set(order)))
        for one in rows:
            for other in rows:
                if one != other and one[2:] == other[2:]:
                    self.assertNotEqual(one[1], other[0])

    def test_probe_and_may_beside_the_plain_tables(self):
        kinds = collections.Counter()
        for seed, pair in self.each_pair(120):
            for at in range(60):
                pair.step()
                values = pair.probe_values()
                told = answer_of(lambda: pair.desk.probe(*values[:4], by=values[4]))
                self.assertEqual(told, answer_of(lambda: pair.plain.probe(*values)), (seed, at, values))
                kinds["probe", told[1] if told[0] == "refused" else len(told[1] or ())] += 1
                values = pair.may_values()
                told = answer_of(lambda: pair.desk.may(*values))
                self.assertEqual(told, answer_of(lambda: pair.plain.may(*values)), (seed, at, values))
                kinds["may", told[1]] += 1
        for kind in (("probe", 0), ("probe", 5), ("probe", 7), ("probe", "NoTask"), ("probe", "NoHandle"),
                     ("probe", "BadKind"), ("probe", "BadStretch"), ("may", True), ("may", False),
                     ("may", "NoTask"), ("may", "NoHandle"), ("may", "BadKind"), ("may", "BadStretch")):
            self.assertGreater(kinds[kind], 9, kind)

    def test_probe_beside_what_lock_then_does(self):
        many = collections.Counter()
        for seed, pair in self.each_pair(60):
            for at in range(50):
                pair.step()
            for at in range(20):
                task, handle, kind, stretch, by = values = pair.probe_values()
                told = answer_of(lambda: pair.desk.probe(*values[:4], by=by))
                desk = copied(pair.desk)
                then = answer_of(lambda: desk.lock(task, handle, kind, stretch, by=by))
                if then[0] == "told":
                    self.assertEqual((told, then), (("told", None), ("told", None)))
                elif then[1] == "Held":
                    self.assertEqual(told, ("told", then[2]))
                    self.assertIsNotNone(then[2])
                many[then[1]] += 1
        self.assertGreater(min(many[None], many["Held"]), 50)

    def test_an_ask_waits_just_if_something_blocks_it(self):
        many = 0
        for seed, pair in self.each_pair(60):
            for at in range(60):
                pair.step()
                for ask in pair.desk.asks():
                    self.assertEqual(pair.desk.outcome(ask[0]), "waits")
                    self.assertTrue(pair.desk.why(ask[0]))
                    self.assertTrue(pair.desk.is_asleep(ask[1]))
                    many += 1
                asleep = [task for task in pair.desk.tasks() if pair.desk.is_asleep(task)]
                self.assertEqual(asleep, sorted(ask[1] for ask in pair.desk.asks()))
        self.assertGreater(many, 1000)

    def test_ending_beside_the_tasks_ended_in_that_order(self):
        slept = 0
        for seed, pair in self.each_pair(60):
            for at in range(25):
                pair.step()
                pair.step()
                desk = copied(pair.desk)
                self.assertEqual(sorted(desk.ending()), list(desk.tasks()))
                slept += len(desk.asks())
                for task in desk.ending():
                    awake = [number for number in desk.tasks() if not desk.is_asleep(number)]
                    self.assertEqual(task, min(awake), (seed, at))
                    desk.end(task)
                self.assertEqual((len(desk), desk.asks()), (0, ()))
                for file in desk.files:
                    self.assertEqual((desk.locks(file), desk.whole_locks(file)), ((), ()))
        self.assertGreater(slept, 300)

    def test_back_to_the_start_and_again_to_the_end(self):
        for seed, pair in self.each_pair(60):
            rows = []
            desk = pair.desk
            for at in range(60):
                ahead = desk.deeds()
                pair.step()
                if desk.deeds() != ahead:
                    rows.append((desk.deeds(), pair.both_told()[0]))
            states = {deeds: told for deeds, told in rows}
            full = desk.deeds()
            many_back, many_again = desk.counts()
            for at in range(many_back):
                self.assertEqual(desk.back(), full[-1 - at][0])
                self.assert_state(desk, states.get(desk.deeds()), pair)
            self.assertEqual((len(desk), desk.deeds()), (0, ()))
            self.assertEqual(desk.counts(), (0, many_back + many_again))
            for at in range(many_back):
                self.assertEqual(desk.again(), full[at][0])
                self.assert_state(desk, states.get(desk.deeds()), pair)
            self.assertEqual(desk.deeds(), full)

    def assert_state(self, desk, wanted, pair):
        """All that was told behind the same deeds is told, but for what could be done again then."""
        if wanted is not None:
            many = (len(wanted["marks"]) - 3, len(wanted["outcomes"]) - 3)
            told = told_by_desk(desk, *many)
            told["counts"] = wanted["counts"] = None
            self.assertEqual(told, wanted)

    def test_a_desk_that_is_read_goes_on_as_the_one_that_was_written(self):
        for seed, pair in self.each_pair(60):
            for at in range(40):
                pair.step()
            pair.desk = copied(pair.desk)
            self.assert_same_told(pair, seed)
            for at in range(20):
                word, values, told, wanted = pair.step()
                self.assertEqual(told, wanted, (seed, at, word, values))
                self.assert_same_told(pair, (seed, at, word, values))

    def test_the_same_deeds_make_the_same_desk(self):
        for seed, pair in self.each_pair(60):
            for at in range(50):
                pair.step()
            desk = Desk(pair.desk.files, fair=pair.desk.fair)
            self.assertEqual(desk == pair.desk, pair.desk.counts() == (0, 0))
            for word, values in pair.desk.deeds():
                call(desk, word, values)
            many = pair.desk.counts()[1]
            self.assertEqual(desk == pair.desk, many == 0)
            for at in range(many):
                pair.desk.again()
            for word, values in pair.desk.deeds()[len(desk.deeds()):]:
                call(desk, word, values)
            self.assertEqual(desk, pair.desk)

    def test_asked_the_same_again_the_same_is_told(self):
        for seed, pair in self.each_pair(40):
            for at in range(50):
                pair.step()
            text = desk_text(pair.desk)
            self.assertEqual(pair.both_told()[0], pair.both_told()[0])
            self.assertEqual(desk_text(pair.desk), text)


if __name__ == "__main__":
    unittest.main()
