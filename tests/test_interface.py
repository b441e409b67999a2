"""The interface, its parts desks.py and writing.py: names, arguments and kinds as they stand there."""

import inspect
import unittest

from lockstretch import writing
from lockstretch.desks import Desk
from lockstretch.writing import desk_text, read_desk
from small import ALL, desk_of

EMPTY = inspect.Parameter.empty
# Name: the parameters ahead of the star, and those behind it with their defaults.
METHODS = {
    "begin": ((), {}),
    "attach": (("task", "file"), {"mode": "both"}),
    "dup": (("task", "handle"), {"at": None}),
    "close": (("task", "handle"), {}),
    "fork": (("task",), {}),
    "end": (("task",), {}),
    "tasks": ((), {}),
    "handles": (("task",), {}),
    "mark": (("number",), {}),
    "is_asleep": (("task",), {}),
    "lock": (("task", "handle", "kind", "stretch"), {"by": "task", "wait": False}),
    "unlock": (("task", "handle", "stretch"), {"by": "task"}),
    "probe": (("task", "handle", "kind", "stretch"), {"by": "task"}),
    "locks": (("file",), {}),
    "asks": ((), {}),
    "cancel": (("task",), {}),
    "outcome": (("number",), {}),
    "why": (("number",), {}),
    "ending": ((), {}),
    "lock_whole": (("task", "handle", "kind"), {"wait": False}),
    "unlock_whole": (("task", "handle"), {}),
    "whole_locks": (("file",), {}),
    "may": (("task", "handle", "word", "stretch"), {}),
    "deeds": ((), {}),
    "back": ((), {}),
    "again": ((), {}),
    "counts": ((), {}),
}


class InterfaceTest(unittest.TestCase):
    def assert_parameters(self, parameters, plain, named):
        self.assertEqual(tuple(parameters), plain + tuple(named))
        for name, parameter in parameters.items():
            if name in named:
                self.assertEqual(parameter.kind, inspect.Parameter.KEYWORD_ONLY, name)
                self.assertIs(type(parameter.default), type(named[name]))
                self.assertEqual(parameter.default, named[name], name)
            else:
                self.assertEqual(parameter.kind, inspect.Parameter.POSITIONAL_OR_KEYWORD, name)
                self.assertIs(parameter.default, EMPTY, name)

    def test_methods_of_the_desk(self):
        for name, (plain, named) in METHODS.items():
            with self.subTest(name=name):
                self.assert_parameters(inspect.signature(getattr(Desk(()), name)).parameters, plain, named)

    def test_the_desk_itself(self):
        self.assert_parameters(inspect.signature(Desk).parameters, ("files",), {"fair": False})

    def test_writing(self):
        for name, plain in (("desk_text", ("desk",)), ("read_desk", ("text",))):
            self.assert_parameters(inspect.signature(getattr(writing, name)).parameters, plain, {})
        self.assertEqual(read_desk(text=desk_text(desk=Desk(files=("a",), fair=True))), Desk(("a",), fair=True))

    def test_those_behind_the_star_by_name_alone(self):
        desk = desk_of(1)
        for word, *values in (
            ("attach", 0, "a", "both"), ("dup", 0, 0, 1), ("lock", 0, 0, "alone", ALL, "task"),
            ("unlock", 0, 0, ALL, "task"), ("probe", 0, 0, "alone", ALL, "task"), ("lock_whole", 0, 0, "alone", True),
        ):
            with self.assertRaises(TypeError):
                getattr(desk, word)(*values)
        with self.assertRaises(TypeError):
            Desk(("a",), True)

    def test_all_can_be_handed_in_by_name(self):
        desk = desk_of(2)
        desk.lock(task=0, handle=0, kind="alone", stretch=(0, 2))
        self.assertEqual(desk.lock(task=1, handle=0, kind="alone", stretch=(0, 2), wait=True), 0)
        self.assertEqual(desk.outcome(number=0), "waits")
        self.assertEqual(desk.why(number=0), desk.locks(file="a"))
        self.assertEqual(desk.probe(task=1, handle=0, kind="alone", stretch=(1, 2)), (0, 2, "alone", "task", 0))
        self.assertIs(desk.may(task=1, handle=0, word="read", stretch=(1, 2)), False)
        self.assertEqual(desk.whole_locks(file="a"), ())
        self.assertEqual((desk.handles(task=1), desk.mark(number=1)), (((0, 1),), ("a", "both", (1,))))
        self.assertIs(desk.is_asleep(task=1), True)
        desk.cancel(task=1)
        desk.unlock(task=0, handle=0, stretch=(0, 1))
        desk.lock_whole(task=0, handle=0, kind="shared")
        desk.unlock_whole(task=0, handle=0)
        self.assertEqual(desk.fork(task=0), 2)
        desk.close(task=2, handle=0)
        desk.end(task=2)

    def test_lists_stand_nowhere(self):
        desk = desk_of(3, fair=True)
        desk.lock(0, 0, "shared", (0, 2))
        desk.lock_whole(0, 0, "shared")
        desk.lock(1, 0, "alone", (0, 4), wait=True)
        desk.lock_whole(2, 0, "alone", wait=True)
        for told in (desk.tasks(), desk.handles(0), desk.mark(0), desk.locks("a"), desk.whole_locks("a"), desk.asks(),
                     desk.why(0), desk.why(1), desk.ending(), desk.deeds(), desk.counts(),
                     desk.probe(0, 0, "alone", (3, 4)), desk.probe(2, 0, "alone", (0, 1))):
            self.assert_plain(told)

    def assert_plain(self, thing):
        self.assertIn(type(thing), (tuple, str, int, bool, type(None)))
        if type(thing) is tuple:
            for part in thing:
                self.assert_plain(part)


if __name__ == "__main__":
    unittest.main()
