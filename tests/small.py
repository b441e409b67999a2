"""Small desks for single tests, and a look at all that one tells."""

import unittest

from lockstretch.desks import Desk
from lockstretch.writing import desk_text
from rows import told_by_desk

ALL = (0, None)


def desk_of(many, *, fair=False, files=("a", "b")):
    """A desk of so many tasks; handle 0 of each leads to a mark of its own, of file a and the same number."""
    desk = Desk(files, fair=fair)
    for task in range(many):
        desk.begin()
        desk.attach(task, "a")
    return desk


def state_of(desk):
    """All that the desk tells, and its writing, which tells what can be done again too."""
    return told_by_desk(desk, 30, 30), desk_text(desk)


class DeskTest(unittest.TestCase):
    def assert_refused(self, error, desk, word, *values, **named):
        """Just this error is raised, and nothing changes; the error is given back."""
        ahead = state_of(desk)
        with self.assertRaises(error) as caught:
            getattr(desk, word)(*values, **named)
        self.assertIs(type(caught.exception), error)
        self.assertEqual(state_of(desk), ahead)
        return caught.exception

    def assert_both_sorts(self, check, many):
        """The check holds in a desk that is fair and in one that is not."""
        for fair in (False, True):
            with self.subTest(fair=fair):
                check(desk_of(many, fair=fair))
