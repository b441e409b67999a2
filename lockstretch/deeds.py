"""The deeds, each over the tables of a desk and the values that are handed in.

A deed checks first and changes then, but for Stuck, which can be told only when the ask is made:
whoever does a deed takes back what a refused one changed.
"""

from lockstretch.checks import (
    awake_mark, check_awake, check_by, check_file, check_kind, check_mode, check_stretch, check_task, mark_at,
)
from lockstretch.claims import ask_of, first_blocker, free_cells, take
from lockstretch.errors import Awake, BadMode, Held
from lockstretch.waits import fall_asleep, settle, wake

# The mode of a mark by which no lock of this kind can be had.
WRONG_MODES = {"shared": "write", "alone": "read"}


def new_handle(tables, task):
    """The least number from 0 on that is no handle of the task."""
    number = 0
    for handle, mark in tables.leads[task]:
        if handle == number:
            number += 1
    return number


def add_user(tables, mark, task):
    """The task is one of those that have the mark."""
    file, mode, users = tables.opened[mark]
    tables.put(tables.opened, mark, (file, mode, tuple(sorted(set(users + (task,))))))


def lead(tables, task, handle, mark):
    """The handle, which led to nothing, leads to the mark."""
    pairs = tables.leads[task] + ((handle, mark),)
    tables.put(tables.leads, task, tuple(sorted(pairs)))
    add_user(tables, mark, task)


def lose_user(tables, mark, task):
    """The task has the mark no more; with its last task the mark goes, and all that it holds."""
    file, mode, users = tables.opened[mark]
    left = tuple([user for user in users if user != task])
    if left:
        tables.put(tables.opened, mark, (file, mode, left))
        return
    tables.drop(tables.opened, mark)
    tables.drop(tables.held[file], ("mark", mark))
    tables.drop(tables.whole[file], mark)


def shut(tables, task, handle):
    """The handle is closed."""
    mark = mark_at(tables, task, handle)
    file = tables.opened[mark][0]
    left = tuple([pair for pair in tables.leads[task] if pair[0] != handle])
    tables.put(tables.leads, task, left)
    tables.drop(tables.held[file], ("task", task))
    if mark not in [pair[1] for pair in left]:
        lose_user(tables, mark, task)


def end_task(tables, task):
    """The task is no task any more, and nothing of it is left."""
    if task in tables.asleep:
        wake(tables, tables.asleep[task], "ended")
    pairs = tables.leads[task]
    for handle, mark in pairs:
        shut(tables, task, handle)
    tables.drop(tables.leads, task)


def take_or_wait(tables, ask, wait):
    """The lock is had at once, and None told; else Held, or the number of the ask that waits."""
    blocker = first_blocker(tables, ask)
    if blocker is None:
        take(tables, ask)
        return None
    if not wait:
        raise Held(blocker)
    if ask[4] is None:
        tables.drop(tables.whole[ask[2]], ask[6])
    return fall_asleep(tables, ask)


def do_begin(tables, values):
    """Of values: none."""
    task = tables.fresh("task")
    tables.put(tables.leads, task, ())
    return task


def do_attach(tables, values):
    """Of values: task, file, mode."""
    task, file, mode = values
    check_awake(tables, task)
    check_mode(mode)
    check_file(tables, file)
    mark = tables.fresh("mark")
    handle = new_handle(tables, task)
    tables.put(tables.opened, mark, (file, mode, ()))
    lead(tables, task, handle, mark)
    return handle


def do_dup(tables, values):
    """Of values: task, handle, at."""
    task, handle, at = values
    mark = awake_mark(tables, task, handle)
    if at == handle:
        return at
    if at is None:
        at = new_handle(tables, task)
    elif mark_at(tables, task, at) is not None:
        shut(tables, task, at)
    lead(tables, task, at, mark)
    return at


def do_close(tables, values):
    """Of values: task, handle."""
    task, handle = values
    awake_mark(tables, task, handle)
    shut(tables, task, handle)


def do_fork(tables, values):
    """Of values: task."""
    task = values[0]
    check_awake(tables, task)
    child = tables.fresh("task")
    pairs = tables.leads[task]
    tables.put(tables.leads, child, pairs)
    for handle, mark in pairs:
        add_user(tables, mark, child)
    return child


def do_end(tables, values):
    """Of values: task."""
    task = values[0]
    check_task(tables, task)
    end_task(tables, task)


def do_lock(tables, values):
    """Of values: task, handle, kind, stretch, by, wait."""
    task, handle, kind, stretch, by, wait = values
    mark = awake_mark(tables, task, handle)
    check_kind(kind)
    check_by(by)
    check_stretch(stretch)
    mode = tables.opened[mark][1]
    if mode == WRONG_MODES[kind]:
        raise BadMode("the mark's mode is not for such a lock")
    return take_or_wait(tables, ask_of(tables, task, mark, kind, stretch, by), wait)


def do_unlock(tables, values):
    """Of values: task, handle, stretch, by."""
    task, handle, stretch, by = values
    mark = awake_mark(tables, task, handle)
    check_by(by)
    check_stretch(stretch)
    holder = (by, task if by == "task" else mark)
    free_cells(tables, tables.opened[mark][0], holder, stretch)


def do_cancel(tables, values):
    """Of values: task."""
    task = values[0]
    check_task(tables, task)
    if task not in tables.asleep:
        raise Awake("the task does not wait")
    wake(tables, tables.asleep[task], "cancelled")


def do_lock_whole(tables, values):
    """Of values: task, handle, kind, wait."""
    task, handle, kind, wait = values
    mark = awake_mark(tables, task, handle)
    check_kind(kind)
    return take_or_wait(tables, ask_of(tables, task, mark, kind, None, "mark"), wait)


def do_unlock_whole(tables, values):
    """Of values: task, handle."""
    task, handle = values
    mark = awake_mark(tables, task, handle)
    tables.drop(tables.whole[tables.opened[mark][0]], mark)


DEEDS = {
    "begin": do_begin,
    "attach": do_attach,
    "dup": do_dup,
    "close": do_close,
    "fork": do_fork,
    "end": do_end,
    "lock": do_lock,
    "unlock": do_unlock,
    "cancel": do_cancel,
    "lock_whole": do_lock_whole,
    "unlock_whole": do_unlock_whole,
}


def do_deed(tables, word, values):
    """The deed of this word is done, and what comes behind each; what it tells is told."""
    deed = DEEDS[word]
    told = deed(tables, values)
    settle(tables)
    return told


def ending_order(tables):
    """All tasks, each awake when its turn to end comes, always the least one of these."""
    start = len(tables.changes)
    order = []
    while tables.leads:
        task = min([number for number in tables.leads if number not in tables.asleep])
        do_deed(tables, "end", (task,))
        order.append(task)
    # It was a trial on the desk's own tables: all is put back.
    tables.undo_to(start)
    return tuple(order)
