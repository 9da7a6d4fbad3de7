"""Numbers that are converted step by step."""

from castchains.errors import ChangedNumber, NothingToUndo, Unreadable
from castchains.readings import read_number, read_steps
from castchains.steps import stages


def changing_casts(numbers, steps):
    """Returns the indexes of the casts that changed the number.

    The numbers are the one at the start and those after each step.
    """
    casts = [index for index, (word, _) in enumerate(steps) if word != "add"]
    return [index for index in casts if numbers[index] != numbers[index + 1]]


class Register:
    """A number that is converted, with all that it was before."""

    def __init__(self, number):
        self._numbers = [number]
        self._steps = []

    def __eq__(self, other):
        return isinstance(other, Register) and type(self) is type(other) and self.number == other.number

    @property
    def number(self):
        """The present number."""
        return self._numbers[-1]

    @property
    def steps(self):
        """The chain of the steps so far."""
        return list(self._steps)

    @property
    def changes(self):
        """How many casts so far changed the number."""
        return len(changing_casts(self._numbers, self._steps))

    def convert(self, *steps):
        """Applies steps; none of them if one is invalid."""
        numbers = list(stages(self.number, steps))
        self._numbers.extend(numbers[1:])
        self._steps.extend(steps)

    def undo(self):
        """Takes back the last step."""
        if not self._steps:
            raise NothingToUndo(0)
        self._steps.pop()
        self._numbers.pop()

    def past(self):
        """Yields the number at the start and after each step so far."""
        yield from self._numbers

    @classmethod
    def read(cls, text):
        """Returns an object of the class for the text of a number and of a chain."""
        # Without a colon the rest is empty, and no chain has the empty text.
        start, _, rest = text.partition(": ")
        number = read_number(start)
        steps = read_steps(rest)
        if number is None or steps is None:
            raise Unreadable(text)
        made = cls(number)
        made.convert(*steps)
        return made


class CheckedRegister(Register):
    """A register that no cast may change."""

    def convert(self, *steps):
        """Applies steps; none of them if one is invalid or a cast that would change the number."""
        numbers = list(stages(self.number, steps))
        changed = changing_casts(numbers, steps)
        if changed:
            raise ChangedNumber(changed[0])
        super().convert(*steps)
