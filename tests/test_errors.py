"""errors.py: LockError, and below it, none below another, all the refusals."""

import unittest

from lockstretch import errors

REFUSALS = (
    "NoTask", "Asleep", "Awake", "NoHandle", "NoMark", "NoFile", "BadMode", "BadKind",
    "BadStretch", "Held", "Stuck", "NoAsk", "NoBack", "NoText",
)


def made(name):
    """An error of this class, made as the program makes it."""
    if name == "Held":
        return errors.Held((0, 5, "alone", "task", 0))
    return getattr(errors, name)("why")


class ErrorsTest(unittest.TestCase):
    def test_lock_error_stands_right_under_value_error(self):
        self.assertEqual(errors.LockError.__bases__, (ValueError,))

    def test_each_refusal_is_there_under_its_name(self):
        for name in REFUSALS:
            with self.subTest(name=name):
                self.assertEqual(getattr(errors, name).__name__, name)

    def test_each_refusal_stands_right_under_lock_error(self):
        for name in REFUSALS:
            with self.subTest(name=name):
                self.assertEqual(getattr(errors, name).__bases__, (errors.LockError,))

    def test_no_refusal_stands_under_another(self):
        for name in REFUSALS:
            for other in REFUSALS:
                with self.subTest(name=name, other=other):
                    below = issubclass(getattr(errors, name), getattr(errors, other))
                    self.assertEqual(below, name == other)

    def test_each_refusal_is_taken_as_itself_as_lock_error_and_as_value_error(self):
        for name in REFUSALS:
            for wanted in (getattr(errors, name), errors.LockError, ValueError):
                with self.subTest(name=name, wanted=wanted):
                    with self.assertRaises(wanted):
                        raise made(name)

    def test_held_keeps_its_blocker(self):
        for blocker in ((0, None, "shared", "mark", 3), (2, 0, "a", "alone", (1, 2), "task", 0), None):
            with self.subTest(blocker=blocker):
                self.assertEqual(errors.Held(blocker).blocker, blocker)
                with self.assertRaises(errors.Held) as caught:
                    raise errors.Held(blocker)
                self.assertEqual(caught.exception.blocker, blocker)

    def test_two_held_keep_their_own_blockers(self):
        one = errors.Held((0, "shared"))
        other = errors.Held((1, "alone"))
        self.assertEqual((one.blocker, other.blocker), ((0, "shared"), (1, "alone")))


if __name__ == "__main__":
    unittest.main()
