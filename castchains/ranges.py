"""What a chain makes of a range of numbers."""

from castchains.spread import alike, check_range, count_numbers, overlap, spread_of


def outputs(chain, first, last):
    """Returns the values of the numbers from first to last as ascending maximal ranges."""
    spread = spread_of(chain)
    check_range(first, last)
    begin = first + spread.total
    end = last + spread.total
    period = spread.period()
    if period is None:
        return [(begin, end)]
    if end - begin + 1 >= period:
        return spread.value_ranges()
    return alike(spread.value_ranges(), begin, end, period)


def count_rests(last, length, period):
    """Returns how many numbers from 0 to last leave a rest less than length modulo the period.

    For a last number less than -1 it is the negative of how many from last + 1 to -1 do so:
    the difference for two numbers counts those between them, wherever they lie.
    """
    return last // period * length + min(last % period + 1, length)


def count_alike(first, last, low, high, period):
    """Returns how many numbers from first to last differ from one of low to high by a multiple of the period.

    From low to high there are no more numbers than the period.
    """
    length = high - low + 1
    return count_rests(last - low, length, period) - count_rests(first - 1 - low, length, period)


def count_inputs(chain, first, last, low, high):
    """Returns how many numbers from first to last lead to a value from low to high."""
    spread = spread_of(chain)
    check_range(first, last)
    check_range(low, high)
    begin = first + spread.total
    end = last + spread.total
    period = spread.period()
    if period is None:
        return count_numbers(overlap([(begin, end)], low, high))
    wanted = overlap(spread.value_ranges(), low, high)
    return sum([count_alike(begin, end, start, stop, period) for start, stop in wanted])


def unchanged(chain):
    """Returns the numbers that a chain leaves as they are, as ranges; None if these are all integers."""
    spread = spread_of(chain)
    period = spread.period()
    if period is None:
        moves = spread.total != 0
    else:
        moves = spread.total % period != 0
    # If the sum of the constants moves no rest, each value leads to itself.
    return [] if moves else spread.value_ranges()
