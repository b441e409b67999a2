"""Tasks that wait: how they fall asleep and wake, and what is done with asks behind each deed."""

from lockstretch.claims import blocking_asks, blocking_locks, is_blocked, take
from lockstretch.errors import Stuck


def fall_asleep(tables, ask):
    """The ask waits, and its task; its number is told; Stuck, if it would never be granted."""
    number = tables.fresh("ask")
    tables.put(tables.waiting, number, ask)
    tables.put(tables.asleep, ask[1], number)
    tables.put(tables.outcomes, number, "waits")
    # All others could go on ahead of this ask: if any is stuck now, this one is, and is the youngest.
    if number in stuck_asks(tables):
        raise Stuck("the task would wait for itself")
    return number


def wake(tables, number, outcome):
    """The ask waits no more; this came of it."""
    task = tables.waiting[number][1]
    tables.drop(tables.waiting, number)
    tables.drop(tables.asleep, task)
    tables.put(tables.outcomes, number, outcome)


def tasks_behind(tables, row):
    """The tasks of which any one could let go of the lock, which is told by locks or by whole_locks."""
    if len(row) == 2:
        return tables.opened[row[0]][2]
    first, end, kind, by, number = row
    return (number,) if by == "task" else tables.opened[number][2]


def needs_of(tables, ask):
    """For each thing that blocks the ask, the tasks of which one must be free for it to go."""
    needs = [tasks_behind(tables, row) for row in blocking_locks(tables, ask)]
    needs.extend([(tables.waiting[number][1],) for number in blocking_asks(tables, ask)])
    return needs


def can_go(needs, free):
    """Whether all things that block an ask can go, by these free tasks."""
    return all([any([task in free for task in tasks]) for tasks in needs])


def stuck_asks(tables):
    """The numbers of all asks that are stuck, rising.

    Free tasks are found from those that are awake on, so that a ring of tasks does not free itself.
    """
    free = {task: True for task in tables.leads if task not in tables.asleep}
    left = {number: needs_of(tables, tables.waiting[number]) for number in sorted(tables.waiting)}
    found = True
    while found:
        found = False
        for number in list(left):
            if can_go(left[number], free):
                free[tables.waiting[number][1]] = True
                del left[number]
                found = True
    return list(left)


def give_up_stuck(tables):
    """As long as asks are stuck, the youngest of them is given up."""
    stuck = stuck_asks(tables)
    while stuck:
        wake(tables, stuck[-1], "stuck")
        stuck = stuck_asks(tables)


def first_unblocked(tables):
    """The eldest ask that nothing blocks; None, if there is none."""
    for number in sorted(tables.waiting):
        if not is_blocked(tables, tables.waiting[number]):
            return number
    return None


def grant(tables):
    """The eldest ask that nothing blocks is granted, until there is none."""
    number = first_unblocked(tables)
    while number is not None:
        take(tables, tables.waiting[number])
        wake(tables, number, "granted")
        # A granted ask can make an alone lock shared, and so free an elder one: all are asked anew.
        number = first_unblocked(tables)


def settle(tables):
    """What is done behind each deed."""
    if tables.waiting:
        give_up_stuck(tables)
        grant(tables)
