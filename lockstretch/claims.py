"""Locks and asks: which of them are against one another, and what blocks an ask.

An ask is (number, task, file, kind, stretch, by, holder), as a desk tells it; its stretch is None
if it is for the whole file. What has not been asked yet is told as the ask that it would become.
"""

from lockstretch.lots import joined, meets, without


def lock_order(row):
    """By what the locks of a file rise: those without end stand behind those that end."""
    first, end, kind, by, number = row
    return (first, end is None, 0 if end is None else end, kind, by, number)


def lock_rows(tables, file):
    """All locks on stretches of the file, (first, end, kind, by, number), in no order."""
    rows = []
    for holder, (shared, alone) in tables.held[file].items():
        rows.extend([stretch + ("shared",) + holder for stretch in shared])
        rows.extend([stretch + ("alone",) + holder for stretch in alone])
    return rows


def told_locks(tables, file):
    """The locks on stretches of the file, rising."""
    return tuple(sorted(lock_rows(tables, file), key=lock_order))


def told_whole(tables, file):
    """The whole locks of the file, (mark, kind), rising."""
    return tuple(sorted(tables.whole[file].items()))


def told_asks(tables):
    """All asks that wait, the elder ahead."""
    return tuple([tables.waiting[number] for number in sorted(tables.waiting)])


def ask_of(tables, task, mark, kind, stretch, by):
    """The ask that the task would make next by this mark."""
    holder = task if by == "task" else mark
    return (tables.given["ask"], task, tables.opened[mark][0], kind, stretch, by, holder)


def clash(kind, other):
    """Whether locks of these kinds can not be on the same cell, or file, for unlike holders."""
    return "alone" in (kind, other)


def blocking_stretches(tables, ask):
    """The locks on stretches against an ask for a stretch, in the order in which they are told."""
    number, task, file, kind, stretch, by, holder = ask
    rows = []
    for other, (shared, alone) in tables.held[file].items():
        if other != (by, holder):
            for other_kind, lot in (("shared", shared), ("alone", alone)):
                if clash(kind, other_kind):
                    rows.extend([part + (other_kind,) + other for part in lot if meets(part, stretch)])
    return sorted(rows, key=lock_order)


def blocking_wholes(tables, ask):
    """The whole locks against an ask for a whole file, in the order in which they are told."""
    number, task, file, kind, stretch, by, holder = ask
    return [row for row in told_whole(tables, file) if row[0] != holder and clash(kind, row[1])]


def blocking_locks(tables, ask):
    """The locks against the ask, in the order in which they are told."""
    if ask[4] is None:
        return blocking_wholes(tables, ask)
    return blocking_stretches(tables, ask)


def asks_are_against(one, other):
    """Whether two asks are against one another."""
    if one[2] != other[2] or one[5:] == other[5:] or not clash(one[3], other[3]):
        return False
    if one[4] is None or other[4] is None:
        return one[4] == other[4]
    return meets(one[4], other[4])


def blocking_asks(tables, ask):
    """The numbers of the elder asks that block the ask, rising; there are none but in a fair desk."""
    if not tables.fair:
        return []
    elder = [other for number, other in tables.waiting.items() if number < ask[0]]
    return sorted([other[0] for other in elder if asks_are_against(other, ask)])


def is_blocked(tables, ask):
    """Whether anything blocks the ask."""
    return bool(blocking_locks(tables, ask) or blocking_asks(tables, ask))


def first_blocker(tables, ask):
    """What is told as the blocker of the ask: a lock, else an ask; None, if nothing blocks it."""
    rows = blocking_locks(tables, ask)
    if rows:
        return rows[0]
    elder = blocking_asks(tables, ask)
    return tables.waiting[elder[0]] if elder else None


def keep_lots(tables, file, holder, shared, alone):
    """The holder's locks on the file are these; a holder without any has no entry."""
    if shared or alone:
        tables.put(tables.held[file], holder, (shared, alone))
    else:
        tables.drop(tables.held[file], holder)


def free_cells(tables, file, holder, stretch):
    """The cells of the stretch have no lock of the holder."""
    shared, alone = tables.held[file].get(holder, ((), ()))
    keep_lots(tables, file, holder, without(shared, (stretch,)), without(alone, (stretch,)))


def take(tables, ask):
    """The holder of the ask has the lock that it asks for, in place of those that it had there."""
    number, task, file, kind, stretch, by, holder = ask
    if stretch is None:
        tables.put(tables.whole[file], holder, kind)
        return
    free_cells(tables, file, (by, holder), stretch)
    shared, alone = tables.held[file].get((by, holder), ((), ()))
    if kind == "shared":
        shared = joined(shared, (stretch,))
    else:
        alone = joined(alone, (stretch,))
    keep_lots(tables, file, (by, holder), shared, alone)
