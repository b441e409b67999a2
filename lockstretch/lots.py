"""Lots of cells: tuples of stretches (first, end), rising, with a gap between each and the next.

Without a gap between them two stretches would be one, so each set of cells has just one lot.
"""


def is_whole(thing):
    """Whether the thing is a whole number; truths are none, though Python counts them as ints."""
    return isinstance(thing, int) and not isinstance(thing, bool)


def is_stretch(thing):
    """Whether the thing is a stretch."""
    if not isinstance(thing, tuple) or len(thing) != 2:
        return False
    first, end = thing
    if not is_whole(first) or first < 0:
        return False
    return end is None or (is_whole(end) and first < end)


def is_lot(thing):
    """Whether the thing is a lot."""
    if not isinstance(thing, tuple):
        return False
    for stretch in thing:
        if not is_stretch(stretch):
            return False
    for ahead, behind in zip(thing, thing[1:]):
        if reaches(ahead[1], behind[0]):
            return False
    return True


def lot_of(stretches):
    """The lot of all cells of the stretches, which may stand in any order."""
    rows = []
    for first, end in sorted(stretches, key=lambda stretch: stretch[0]):
        if rows and reaches(rows[-1][1], first):
            rows[-1] = (rows[-1][0], later_end(rows[-1][1], end))
        else:
            rows.append((first, end))
    return tuple(rows)


def joined(one, other):
    """The lot of the cells of one lot or the other."""
    return lot_of(one + other)


def without(one, other):
    """The lot of the cells of the first lot that the second has not."""
    return both(one, gaps_of(other))


def both(one, other):
    """The lot of the cells that both lots have."""
    rows = []
    at = 0
    beside = 0
    while at < len(one) and beside < len(other):
        left, right = one[at], other[beside]
        end = earlier_end(left[1], right[1])
        if meets(left, right):
            rows.append((max(left[0], right[0]), end))
        # The one that ends first meets nothing that comes behind.
        if left[1] == end:
            at += 1
        else:
            beside += 1
    return tuple(rows)


def has(lot, cell):
    """Whether the cell is one of the lot."""
    for first, end in lot:
        if first <= cell and (end is None or cell < end):
            return True
    return False


def size_of(lot):
    """How many cells the lot has; None if it is without end."""
    many = 0
    for first, end in lot:
        if end is None:
            return None
        many += end - first
    return many


def meets(one, other):
    """Whether the two stretches have a cell in common."""
    end = earlier_end(one[1], other[1])
    return end is None or max(one[0], other[0]) < end


def gaps_of(lot):
    """The lot of all cells that the lot has not."""
    rows = []
    start = 0
    for first, end in lot:
        if start < first:
            rows.append((start, first))
        if end is None:
            return tuple(rows)
        start = end
    rows.append((start, None))
    return tuple(rows)


def reaches(end, cell):
    """Whether no gap lies between cells ahead of the end and those from the cell on."""
    return end is None or end >= cell


def earlier_end(one, other):
    """That of two ends which comes first."""
    if one is None:
        return other
    if other is None:
        return one
    return min(one, other)


def later_end(one, other):
    """That of two ends which comes last."""
    if one is None or other is None:
        return None
    return max(one, other)
