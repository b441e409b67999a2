"""lots.py, held against plain sets of cells that are walked one by one.

WIDTH cells are told one by one; the last of them stands for all that lie behind,
so a set of cells of range(WIDTH) tells a lot, without end if it has the last.
"""

import inspect
import itertools
import unittest

from lockstretch import lots
from lockstretch.lots import both, has, is_lot, is_stretch, joined, lot_of, meets, size_of, without

WIDTH = 7
TAIL = WIDTH - 1
HUGE = 10 ** 40


def cells_of(stretches):
    """The cells of range(WIDTH) that the stretches have, by what a stretch is."""
    cells = set()
    for first, end in stretches:
        cells.update(range(first, WIDTH if end is None else end))
    return frozenset(cells)


def written(cells):
    """The one lot of these cells, found by walking the cells."""
    rows = []
    first = None
    for cell in range(WIDTH):
        if cell in cells and first is None:
            first = cell
        if cell not in cells and first is not None:
            rows.append((first, cell))
            first = None
    if first is not None:
        rows.append((first, None))
    return tuple(rows)


STRETCHES = tuple(
    (first, end)
    for first in range(WIDTH)
    for end in [*range(first + 1, TAIL + 1), None]
)
CELL_SETS = tuple(
    frozenset(cells)
    for many in range(WIDTH + 1)
    for cells in itertools.combinations(range(WIDTH), many)
)
LOTS = tuple(written(cells) for cells in CELL_SETS)


def far(stretches, shift=0):
    """The same stretches, each cell drawn out to HUGE cells and all of it shifted."""
    return tuple(
        (first * HUGE + shift, None if end is None else end * HUGE + shift)
        for first, end in stretches
    )


class Odd:
    """A thing that answers nothing about itself but that it is equal to all."""

    def __eq__(self, other):
        return True

    __hash__ = None


NO_TUPLES = (
    None, True, False, 0, 1, -1, 1.0, float("nan"), "", "ab", "(0, 1)", b"", b"ab", [], [0, 1], [(0, 1)],
    {}, {0: 1, 2: 3}, set(), {0, 1}, frozenset((0, 1)), range(2), object(), Odd(), int, tuple, len,
)
NO_STRETCHES = NO_TUPLES + (
    (), (0,), (None,), (0, 1, 2), (0, 1, None), (0, None, None), ((0, 1),), ((0, 1), (2, 3)),
    (0, 0), (1, 1), (1, 0), (5, 3), (HUGE, HUGE), (HUGE, HUGE - 1), (0, -1), (-1, 0), (-1, 1), (-1, None),
    (-HUGE, HUGE), (-2, -1), (True, 2), (False, 2), (0, True), (False, True), (True, None), (False, None),
    (0, False), (None, None), (None, 1), (0, "1"), ("0", 1), ("a", "b"), (0, 1.0), (0.0, 1), (0.5, None),
    (0, b"1"), (0, [1]), ([0], 1), (0, (1,)), ((0,), 1), (0, float("inf")), (0, object()), (0, Odd()), (Odd(), 1),
)
NO_LOTS = NO_TUPLES + tuple((thing,) for thing in NO_STRETCHES) + (
    (0, 1), (0, None),
    ((0, 1), [2, 3]), ([0, 1], (2, 3)), [(0, 1), (2, 3)], ((0, 1), None), ((0, 1), ()), (None, (0, 1)),
    ((0, 1), (2, True)), ((False, 1), (2, 3)), ((0, 1), (3, 2)), ((0, 1), (3, 3)),
    ((2, 3), (0, 1)), ((0, 1), (4, 5), (2, 3)), ((4, None), (0, 1)),
    ((0, 1), (0, 1)), ((0, None), (0, None)), ((0, 1), (0, 2)), ((0, 2), (0, 1)),
    ((0, 1), (1, 2)), ((0, 2), (2, None)), ((0, 1), (3, 4), (4, 5)), ((0, HUGE), (HUGE, HUGE + 1)),
    ((0, 3), (2, 5)), ((0, 9), (2, 5)), ((0, 3), (2, None)), ((0, 1), (3, 6), (5, 7)),
    ((0, None), (5, 6)), ((0, None), (5, None)), ((3, None), (9, 10)), ((0, 1), (3, None), (9, 10)),
    ((0, None), None), ((0, None), ()), ((0, None), (5, 5)),
)


class LotsTest(unittest.TestCase):
    def assert_plain(self, lot):
        """A lot that is told is one by the document's words, of tuples and ints themselves."""
        self.assertIs(type(lot), tuple)
        for stretch in lot:
            self.assertIs(type(stretch), tuple)
            self.assertEqual(len(stretch), 2)
            self.assertIs(type(stretch[0]), int)
            self.assertTrue(stretch[1] is None or type(stretch[1]) is int)
        self.assertIs(is_lot(lot), True)


class InterfaceTest(unittest.TestCase):
    def test_parameters_bear_the_names_of_the_document(self):
        wanted = {
            "is_stretch": ["thing"], "is_lot": ["thing"], "lot_of": ["stretches"],
            "joined": ["one", "other"], "without": ["one", "other"], "both": ["one", "other"],
            "has": ["lot", "cell"], "size_of": ["lot"], "meets": ["one", "other"],
        }
        for name, parameters in wanted.items():
            with self.subTest(name=name):
                told = inspect.signature(getattr(lots, name)).parameters
                self.assertEqual(list(told), parameters)
                for parameter in told.values():
                    self.assertEqual(parameter.kind, inspect.Parameter.POSITIONAL_OR_KEYWORD)
                    self.assertIs(parameter.default, inspect.Parameter.empty)

    def test_arguments_may_be_handed_in_by_name(self):
        self.assertIs(is_stretch(thing=(0, 1)), True)
        self.assertIs(is_lot(thing=()), True)
        self.assertEqual(lot_of(stretches=((0, 1),)), ((0, 1),))
        self.assertEqual(joined(other=((4, 5),), one=((0, 1),)), ((0, 1), (4, 5)))
        self.assertEqual(without(other=((1, 2),), one=((0, 2),)), ((0, 1),))
        self.assertEqual(both(other=((1, 2),), one=((0, 2),)), ((1, 2),))
        self.assertIs(has(cell=0, lot=((0, 1),)), True)
        self.assertEqual(size_of(lot=((0, 3),)), 3)
        self.assertIs(meets(other=(0, 1), one=(0, 1)), True)


class IsStretchTest(unittest.TestCase):
    def test_stretches(self):
        more = ((0, 1), (0, None), (3, 4), (3, 9), (HUGE, HUGE + 1), (0, HUGE), (HUGE, None))
        for thing in STRETCHES + more:
            with self.subTest(thing=thing):
                self.assertIs(is_stretch(thing), True)

    def test_other_things(self):
        for thing in NO_STRETCHES:
            with self.subTest(thing=repr(thing)):
                self.assertIs(is_stretch(thing), False)

    def test_every_pair_of_small_numbers(self):
        for first in range(-3, 5):
            for end in range(-3, 5):
                self.assertIs(is_stretch((first, end)), 0 <= first < end, (first, end))
            self.assertIs(is_stretch((first, None)), first >= 0, first)


class IsLotTest(unittest.TestCase):
    def test_lots(self):
        more = ((), ((0, 1),), ((0, None),), ((HUGE, None),), ((0, 1), (2, 3), (4, 5), (6, None)),
                ((0, HUGE), (HUGE + 1, None)), tuple((2 * k, 2 * k + 1) for k in range(1000)))
        for thing in LOTS + more:
            with self.subTest(thing=thing):
                self.assertIs(is_lot(thing), True)

    def test_other_things(self):
        for thing in NO_LOTS:
            with self.subTest(thing=repr(thing)):
                self.assertIs(is_lot(thing), False)

    def test_of_all_short_rows_of_stretches_just_the_lots(self):
        known = set(LOTS)
        for many in range(4):
            for thing in itertools.product(STRETCHES, repeat=many):
                self.assertIs(is_lot(thing), thing in known, thing)


class LotOfTest(LotsTest):
    def test_the_empty_tuple(self):
        self.assertEqual(lot_of(()), ())

    def test_told_ones(self):
        for stretches, lot in (
            (((0, 1),), ((0, 1),)),
            (((0, None),), ((0, None),)),
            (((0, 3), (2, 5)), ((0, 5),)),
            (((5, 7), (0, 2)), ((0, 2), (5, 7))),
            (((3, 6), (0, 3)), ((0, 6),)),
            (((0, 9), (2, 5)), ((0, 9),)),
            (((2, 5), (0, 9)), ((0, 9),)),
            (((4, 5), (4, 5)), ((4, 5),)),
            (((0, 1), (2, 3), (1, 2)), ((0, 3),)),
            (((0, None), (5, 6)), ((0, None),)),
            (((5, 6), (3, None), (0, 1), (8, None)), ((0, 1), (3, None))),
            (((4, None), (2, 4)), ((2, None),)),
            (((4, None), (4, 9)), ((4, None),)),
            (((4, 9), (4, None)), ((4, None),)),
            (((HUGE, HUGE + 1), (0, HUGE)), ((0, HUGE + 1),)),
            (((HUGE + 1, None), (0, HUGE)), ((0, HUGE), (HUGE + 1, None))),
        ):
            with self.subTest(stretches=stretches):
                self.assertEqual(lot_of(stretches), lot)

    def test_all_short_rows_of_stretches_cell_by_cell(self):
        for many in range(4):
            for stretches in itertools.product(STRETCHES, repeat=many):
                lot = lot_of(stretches)
                self.assertEqual(lot, written(cells_of(stretches)), stretches)
                self.assert_plain(lot)

    def test_every_order_tells_the_same(self):
        stretches = ((0, 2), (1, 4), (4, 5), (6, 7), (8, 20), (9, 10), (12, 13))
        for row in itertools.permutations(stretches):
            self.assertEqual(lot_of(row), ((0, 5), (6, 7), (8, 20)), row)
            self.assertEqual(lot_of(row + ((13, None),)), ((0, 5), (6, 7), (8, None)), row)

    def test_a_lot_is_its_own_lot(self):
        for lot in LOTS:
            self.assertEqual(lot_of(lot), lot)
            self.assertEqual(lot_of(lot[::-1] + lot), lot)
            self.assert_plain(lot_of(lot))

    def test_one_writing_for_each_set_of_cells(self):
        for cells in CELL_SETS:
            single = tuple((cell, None if cell == TAIL else cell + 1) for cell in cells)
            self.assertEqual(lot_of(single), written(cells))
            self.assertEqual(lot_of(single[::-1]), written(cells))
        self.assertEqual(len({lot_of(lot) for lot in LOTS}), 2 ** WIDTH)

    def test_very_large_numbers(self):
        for stretches in itertools.product(STRETCHES, repeat=2):
            self.assertEqual(lot_of(far(stretches, 5)), far(written(cells_of(stretches)), 5))

    def test_many_stretches(self):
        apart = tuple((2 * k, 2 * k + 1) for k in range(20000))
        between = tuple((2 * k + 1, 2 * k + 2) for k in range(20000))
        self.assertEqual(lot_of(apart[::-1]), apart)
        self.assertEqual(lot_of(apart + between), ((0, 40000),))


class JoinCutTest(LotsTest):
    def assert_all_pairs(self, deed, sign):
        """The deed tells of every pair of lots what the sign tells of their sets of cells."""
        for one, left in zip(LOTS, CELL_SETS):
            for other, right in zip(LOTS, CELL_SETS):
                told = deed(one, other)
                self.assertEqual(told, written(sign(left, right)), (one, other))
                self.assert_plain(told)

    def test_joined_cell_by_cell(self):
        self.assert_all_pairs(joined, lambda left, right: left | right)

    def test_without_cell_by_cell(self):
        self.assert_all_pairs(without, lambda left, right: left - right)

    def test_both_cell_by_cell(self):
        self.assert_all_pairs(both, lambda left, right: left & right)

    def test_told_ones(self):
        one = ((0, 4), (6, 9), (12, None))
        other = ((2, 6), (8, 13))
        self.assertEqual(joined(one, other), ((0, None),))
        self.assertEqual(without(one, other), ((0, 2), (6, 8), (13, None)))
        self.assertEqual(without(other, one), ((4, 6), (9, 12)))
        self.assertEqual(both(one, other), ((2, 4), (8, 9), (12, 13)))

    def test_the_empty_lot(self):
        for lot in LOTS:
            self.assertEqual(joined(lot, ()), lot)
            self.assertEqual(joined((), lot), lot)
            self.assertEqual(without(lot, ()), lot)
            self.assertEqual(without((), lot), ())
            self.assertEqual(both(lot, ()), ())
            self.assertEqual(both((), lot), ())

    def test_right_at_the_next_first_cell(self):
        self.assertEqual(joined(((0, 3),), ((3, 5),)), ((0, 5),))
        self.assertEqual(joined(((3, None),), ((0, 3),)), ((0, None),))
        self.assertEqual(both(((0, 3),), ((3, 5),)), ())
        self.assertEqual(without(((0, 3),), ((3, 5),)), ((0, 3),))
        self.assertEqual(without(((3, 5),), ((0, 3),)), ((3, 5),))

    def test_one_cell_out_of_all(self):
        self.assertEqual(without(((0, None),), ((0, 1),)), ((1, None),))
        self.assertEqual(without(((0, None),), ((5, 6),)), ((0, 5), (6, None)))
        self.assertEqual(joined(((0, 5), (6, None)), ((5, 6),)), ((0, None),))

    def test_very_large_numbers(self):
        for one in LOTS[::3]:
            for other in LOTS[::5]:
                for deed in (joined, without, both):
                    self.assertEqual(deed(far(one, 7), far(other, 7)), far(deed(one, other), 7))

    def test_compared_as_the_cells_that_they_have(self):
        for one, left in zip(LOTS, CELL_SETS):
            for other, right in zip(LOTS, CELL_SETS):
                self.assertEqual(without(one, other) == (), left <= right)
                self.assertEqual(joined(one, other) == both(one, other), left == right)
                self.assertEqual(joined(without(one, other), both(one, other)), one)

    def test_gaps_cell_by_cell(self):
        for lot, cells in zip(LOTS, CELL_SETS):
            told = lots.gaps_of(lot)
            self.assertEqual(told, written(frozenset(range(WIDTH)) - cells), lot)
            self.assert_plain(told)

    def test_long_lots(self):
        one = tuple((4 * k, 4 * k + 2) for k in range(20000))
        other = tuple((4 * k + 1, 4 * k + 3) for k in range(20000))
        self.assertEqual(joined(one, other), tuple((4 * k, 4 * k + 3) for k in range(20000)))
        self.assertEqual(without(one, other), tuple((4 * k, 4 * k + 1) for k in range(20000)))
        self.assertEqual(both(one, other), tuple((4 * k + 1, 4 * k + 2) for k in range(20000)))


class HasTest(unittest.TestCase):
    def test_cell_by_cell(self):
        for lot, cells in zip(LOTS, CELL_SETS):
            for cell in range(WIDTH):
                self.assertIs(has(lot, cell), cell in cells, (lot, cell))
            for cell in (WIDTH, 1000, HUGE):
                self.assertIs(has(lot, cell), TAIL in cells, (lot, cell))

    def test_the_empty_lot_has_none(self):
        for cell in (0, 1, HUGE):
            self.assertIs(has((), cell), False)

    def test_very_large_numbers(self):
        lot = ((HUGE, 2 * HUGE), (3 * HUGE, None))
        for cell, wanted in (
            (0, False), (HUGE - 1, False), (HUGE, True), (2 * HUGE - 1, True), (2 * HUGE, False),
            (3 * HUGE - 1, False), (3 * HUGE, True), (HUGE ** 3, True),
        ):
            self.assertIs(has(lot, cell), wanted, cell)

    def test_stretches_of_one_cell(self):
        lot = ((0, 1), (2, 3), (9, 10))
        self.assertEqual([cell for cell in range(20) if has(lot, cell)], [0, 2, 9])


class SizeOfTest(unittest.TestCase):
    def test_cell_by_cell(self):
        for lot, cells in zip(LOTS, CELL_SETS):
            wanted = None if TAIL in cells else len(cells)
            self.assertEqual(size_of(lot), wanted, lot)

    def test_told_ones(self):
        for lot, wanted in (
            ((), 0), (((0, 1),), 1), (((5, 6),), 1), (((0, None),), None), (((HUGE, None),), None),
            (((0, 1), (3, None)), None), (((0, 2), (4, 9)), 7), (((1, HUGE), (HUGE + 1, 3 * HUGE)), 3 * HUGE - 2),
        ):
            with self.subTest(lot=lot):
                self.assertEqual(size_of(lot), wanted)

    def test_is_a_number_that_is_no_truth(self):
        for lot in ((), ((0, 1),)):
            self.assertIs(type(size_of(lot)), int)


class MeetsTest(unittest.TestCase):
    def test_cell_by_cell(self):
        for one in STRETCHES:
            for other in STRETCHES:
                wanted = bool(cells_of((one,)) & cells_of((other,)))
                self.assertIs(meets(one, other), wanted, (one, other))

    def test_told_ones(self):
        for one, other, wanted in (
            ((0, 1), (0, 1), True), ((0, 1), (1, 2), False), ((0, 2), (1, 3), True), ((0, 9), (4, 5), True),
            ((0, 3), (3, None), False), ((0, 4), (3, None), True), ((0, None), (HUGE, None), True),
            ((0, HUGE), (HUGE, None), False), ((0, HUGE + 1), (HUGE, HUGE + 9), True), ((0, 1), (8, 9), False),
        ):
            with self.subTest(one=one, other=other):
                self.assertIs(meets(one, other), wanted)
                self.assertIs(meets(other, one), wanted)


class SameAgainTest(unittest.TestCase):
    CALLS = (
        (is_stretch, ((0, 3),)), (is_stretch, ([0, 3],)), (is_stretch, ((0, [3]),)),
        (is_lot, (((0, 3), (5, None)),)), (is_lot, ([(5, 6), (0, 3)],)), (is_lot, (([5, 6], [0, 3]),)),
        (lot_of, (((5, 9), (0, 3), (2, 4), (8, None)),)),
        (joined, (((0, 3), (7, None)), ((2, 5),))),
        (without, (((0, 3), (7, None)), ((2, 5), (9, 10)))),
        (both, (((0, 3), (7, None)), ((2, 5), (9, 10)))),
        (has, (((0, 3), (7, None)), 7)),
        (size_of, (((0, 3), (7, 9)),)),
        (meets, ((0, 3), (2, None))),
    )

    def test_the_same_is_told_and_what_is_handed_in_stays(self):
        first_round = []
        for call, handed in self.CALLS:
            shown = repr(handed)
            first_round.append(call(*handed))
            self.assertEqual(repr(handed), shown)
        again = [call(*handed) for call, handed in self.CALLS]
        backwards = [call(*handed) for call, handed in self.CALLS[::-1]][::-1]
        self.assertEqual(again, first_round)
        self.assertEqual(backwards, first_round)


if __name__ == "__main__":
    unittest.main()
