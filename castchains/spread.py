"""How the values of a chain lie: what most files of the interface have in common.

Ranges are a list of tuples (low, high), ascending, between which at least
one integer is missing.
"""

from castchains.errors import InvalidRange
from castchains.steps import cast, check_chain, lowest_result


def check_range(first, last):
    """Raises InvalidRange if the first number is greater than the last one."""
    if first > last:
        raise InvalidRange((first, last))


def count_numbers(ranges):
    """Returns how many numbers the ranges contain."""
    return sum([high - low + 1 for low, high in ranges])


def number_at(ranges, place):
    """Returns the number at a place, from 0 on, in ascending order; None if there is none."""
    if place < 0:
        return None
    for low, high in ranges:
        if place <= high - low:
            return low + place
        place -= high - low + 1
    return None


def holds(ranges, number):
    """Returns True if the ranges contain a number, otherwise False."""
    return any([low <= number <= high for low, high in ranges])


def moved(ranges, distance):
    """Returns the ranges with a distance added to each number."""
    return [(low + distance, high + distance) for low, high in ranges]


def overlap(ranges, first, last):
    """Returns the numbers of the ranges from the first to the last one, as ranges."""
    return [(max(low, first), min(high, last)) for low, high in ranges if low <= last and high >= first]


def alike(ranges, first, last, period):
    """Returns the numbers of the ranges that differ from one of first to last by a multiple of the period.

    No range has more numbers than the period, and first to last are fewer.
    """
    found = []
    for low, high in ranges:
        begin = low - (low - first) % period
        for start in (begin, begin + period):
            found.extend(overlap([(low, high)], start, start + last - first))
    return found


def parted(ranges, last):
    """Returns two lists of ranges: the numbers up to the last one, and the greater ones."""
    staying = [(low, min(high, last)) for low, high in ranges if low <= last]
    leaving = [(max(low, last + 1), high) for low, high in ranges if high > last]
    return staying, leaving


class Spread:
    """The function of a chain that is taken in step by step.

    levels: a tuple (width, cut, ranges) for each width of the form; the
    ranges are the numbers after this cut. The first level has the cut 0.
    offset: what leads from the numbers of the last level to the values.
    total: the sum of all constants.
    """

    def __init__(self):
        self.levels = []
        self.offset = 0
        self.total = 0

    def take(self, word, amount):
        """Takes in a valid step."""
        if word == "add":
            self.offset += amount
            self.total += amount
            return
        # What such a cut moved, it moved by a multiple of 2 ** amount: this cast undoes it.
        while self.levels and self.levels[-1][0] >= amount:
            self.levels.pop()
        if self.levels:
            self.take_wider_cast(word, amount)
        else:
            self.levels.append((amount, 0, [(0, (1 << amount) - 1)]))
            self.offset = lowest_result(word, amount)

    def take_wider_cast(self, word, width):
        """Takes in a cast that is wider than all widths so far."""
        ranges = self.levels[-1][2]
        lowest = ranges[0][0]
        self.offset = cast(lowest + self.offset, word, width) - lowest
        # The ranges reach over less than 2 ** width numbers, so the cast parts them at most once.
        last = lowest_result(word, width) + (1 << width) - 1 - self.offset
        staying, leaving = parted(ranges, last)
        if leaving:
            cut = count_numbers(staying)
            self.levels.append((width, cut, moved(leaving, -(1 << width)) + staying))

    def period(self):
        """Returns after how many numbers the function repeats; None without casts."""
        if not self.levels:
            return None
        return 1 << self.levels[0][0]

    def value_ranges(self):
        """Returns the values as ranges; None if every integer is a value."""
        if not self.levels:
            return None
        return moved(self.levels[-1][2], self.offset)


def spread_of(chain):
    """Returns the Spread of a chain, after the check of the chain."""
    check_chain(chain)
    spread = Spread()
    for word, amount in chain:
        spread.take(word, amount)
    return spread
