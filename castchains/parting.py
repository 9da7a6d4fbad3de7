"""Where two chains differ."""

from castchains.forms import same_function
from castchains.spread import spread_of
from castchains.steps import check_chain


def changes_of(spread):
    """Returns a dict that tells what a function adds to the numbers from 0 to its period.

    Its keys are the numbers from which on it adds something else, up to the
    next key. Without casts it adds the same to all numbers.
    """
    period = spread.period()
    if period is None:
        return {0: spread.total}
    changes = {}
    for low, high in spread.value_ranges():
        first = (low - spread.total) % period
        changes[first] = low - first
        if first + high - low >= period:
            changes[0] = low - first + period
    changes[period] = changes[0] - period
    return changes


def parting_number(first, second):
    """Returns the least number of at least 0 on which two chains differ; None if they do the same."""
    changes = changes_of(spread_of(first))
    others = changes_of(spread_of(second))
    change = other = None
    # Functions with different periods differ at the shorter one at the latest:
    # there one of them begins again, and the other one does not.
    for start in sorted([*changes, *others]):
        change = changes.get(start, change)
        other = others.get(start, other)
        if change != other:
            return start
    return None


def commute(first, second):
    """Returns True if it makes no difference which of two chains comes first, otherwise False."""
    check_chain(first)
    check_chain(second)
    return same_function([*first, *second], [*second, *first])
