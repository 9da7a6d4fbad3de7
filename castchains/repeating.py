"""Chains that are applied again and again, and chains that undo other ones."""

from castchains.errors import InvalidNumber
from castchains.spread import check_range, spread_of
from castchains.steps import converted


def repeated(number, chain, times):
    """Returns what a chain makes of a number if it is applied so many times."""
    spread = spread_of(chain)
    if times < 0:
        raise InvalidNumber(times)
    if times == 0:
        return number
    # Each time moves the rest by the sum of the constants, and only the last rest tells the value.
    return converted(number + (times - 1) * spread.total, chain)


def undoing(chain, first, last):
    """Returns a chain that leads the values of the numbers from first to last back; None if there is none."""
    spread = spread_of(chain)
    check_range(first, last)
    period = spread.period()
    if period is None:
        return [("add", -spread.total)]
    if last - first >= period:
        return None
    # A value less the sum of the constants leaves the rest of its number; only one from first on leaves it.
    return [("add", -spread.total - first), ("u", spread.levels[0][0]), ("add", first)]
