"""The errors of Castchains.

Each class but CastError takes exactly one argument and keeps it in `value`.
Each has its own `__init__`, because CastError takes what ValueError takes.
"""


class CastError(ValueError):
    """What all errors of Castchains have in common."""


class InvalidStep(CastError):
    """A tuple is not a step; the value is its index in the chain."""

    def __init__(self, value):
        self.value = value


class InvalidForm(CastError):
    """A tuple is not a form; the value is None."""

    def __init__(self, value):
        self.value = value


class InvalidNumber(CastError):
    """There is nothing with this number; the value is the number."""

    def __init__(self, value):
        self.value = value


class InvalidRange(CastError):
    """A range ends before it begins; the value is (first, last)."""

    def __init__(self, value):
        self.value = value


class ChangedNumber(CastError):
    """A cast would change a number; the value is the index of the cast."""

    def __init__(self, value):
        self.value = value


class NothingToUndo(CastError):
    """There is no step to take back; the value is 0."""

    def __init__(self, value):
        self.value = value


class Unreadable(CastError):
    """Nothing has this text; the value is the text."""

    def __init__(self, value):
        self.value = value
