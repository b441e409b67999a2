"""The refusals that a look at what is handed in can tell, and what is found on the way.

Their words leave out what was handed in: Python does not turn every number into a text.
"""

from lockstretch.errors import Asleep, BadKind, BadMode, BadStretch, NoAsk, NoFile, NoHandle, NoMark, NoTask
from lockstretch.lots import is_stretch, is_whole

KINDS = ("shared", "alone")
HOLDERS = ("task", "mark")
MODES = ("read", "write", "both")
WORDS = ("read", "write")


def is_key(table, number):
    """Whether the table has this number; a truth is no number, though Python finds it as one."""
    return is_whole(number) and number in table


def check_task(tables, task):
    """NoTask, if there is no such task."""
    if not is_key(tables.leads, task):
        raise NoTask("there is no such task")


def check_awake(tables, task):
    """NoTask, then Asleep."""
    check_task(tables, task)
    if task in tables.asleep:
        raise Asleep("the task waits")


def check_file(tables, file):
    """NoFile, if the desk has no such file."""
    if file not in tables.files:
        raise NoFile("there is no such file")


def check_mode(mode):
    """BadMode, if it is none."""
    if mode not in MODES:
        raise BadMode("this is no mode")


def check_kind(kind):
    """BadKind, if it is no kind of lock."""
    if kind not in KINDS:
        raise BadKind("this is no kind of lock")


def check_by(by):
    """BadKind, if it is no sort of holder."""
    if by not in HOLDERS:
        raise BadKind("this is no sort of holder")


def check_word(word):
    """BadKind, if it is no word for what may be done."""
    if word not in WORDS:
        raise BadKind("this is neither read nor write")


def check_stretch(stretch):
    """BadStretch, if it is none."""
    if not is_stretch(stretch):
        raise BadStretch("this is no stretch")


def mark_at(tables, task, handle):
    """The mark to which a handle of the task leads; None, if it leads to nothing."""
    if is_whole(handle):
        for number, mark in tables.leads[task]:
            if number == handle:
                return mark
    return None


def mark_of(tables, task, handle):
    """The mark to which the handle leads; NoTask, then NoHandle."""
    check_task(tables, task)
    mark = mark_at(tables, task, handle)
    if mark is None:
        raise NoHandle("the handle leads to nothing")
    return mark


def awake_mark(tables, task, handle):
    """The mark to which the handle leads; NoTask, then Asleep, then NoHandle."""
    check_awake(tables, task)
    return mark_of(tables, task, handle)


def opened_mark(tables, number):
    """What the tables have of the mark; NoMark, if no handle leads there."""
    if not is_key(tables.opened, number):
        raise NoMark("no handle leads to such a mark")
    return tables.opened[number]


def ask_entry(table, number):
    """What the table has of the ask; NoAsk, if it has nothing."""
    if not is_key(table, number):
        raise NoAsk("there is no such ask")
    return table[number]
