"""The values of a chain, and the numbers that lead to them."""

from castchains.errors import InvalidNumber
from castchains.spread import holds, number_at, spread_of


def value_intervals(chain):
    """Returns the values as ascending maximal ranges; None if every integer is a value."""
    return spread_of(chain).value_ranges()


def nth_value(chain, number):
    """Returns the value with a number, from 0 on, in ascending order."""
    ranges = value_intervals(chain)
    if ranges is None:
        raise InvalidNumber(number)
    value = number_at(ranges, number)
    if value is None:
        raise InvalidNumber(number)
    return value


def origins(chain, value):
    """Returns (rest, period) of the numbers that lead to a value; None if it is none."""
    spread = spread_of(chain)
    number = value - spread.total
    period = spread.period()
    if period is None:
        return (number, None)
    if not holds(spread.value_ranges(), value):
        return None
    return (number % period, period)
