"""The refusals, one class for each; all stand right under LockError."""


class LockError(ValueError):
    """Any refusal."""


class NoTask(LockError):
    """There is no task of this number."""


class Asleep(LockError):
    """The task waits."""


class Awake(LockError):
    """The task does not wait."""


class NoHandle(LockError):
    """The handle leads to nothing."""


class NoMark(LockError):
    """No handle leads to the mark."""


class NoFile(LockError):
    """There is no file of this name."""


class BadMode(LockError):
    """The mode is none, or is not for this lock."""


class BadKind(LockError):
    """The kind, the sort of holder or the word is none."""


class BadStretch(LockError):
    """The thing is no stretch."""


class Held(LockError):
    """A lock or an ask keeps it off: the blocker."""

    def __init__(self, blocker):
        self.blocker = blocker


class Stuck(LockError):
    """The task would wait for itself."""


class NoAsk(LockError):
    """There is no ask of this number, or it does not wait."""


class NoBack(LockError):
    """There is no deed to take back, or to do again."""


class NoText(LockError):
    """The text is the writing of no desk."""
