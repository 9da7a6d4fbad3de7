"""Chains with as few steps as possible.

A cast that a narrower or equal one follows may be left out, and one that
parts no values may be replaced by an addition. So there is a shortest chain
that has just one cast for each width of the form, in this order, with an
addition before, between and behind them where it is needed. What is free is
the word of each cast and, where the values have a gap at its cut, the
offset behind it (see Spread).
"""

from castchains.spread import alike, holds, number_at, spread_of
from castchains.steps import lowest_result

WORDS = ("u", "s")


def offset_range(levels, index, word):
    """Returns the least and the greatest offset that a cast of a level can lead to with a word."""
    width, cut, _ = levels[index]
    lowest = lowest_result(word, width)
    if index == 0:
        return (lowest, lowest)
    # The cut is right if the cast's results end between the two numbers beside it.
    before = levels[index - 1][2]
    end = lowest + (1 << width)
    return (end - number_at(before, cut), end - number_at(before, cut - 1) - 1)


def offset_ranges(levels, index):
    """Returns the offsets that a cast of a level can lead to, a range for each word."""
    return [offset_range(levels, index, word) for word in WORDS]


def first_constant(spread, offset):
    """Returns what is added before the first cast if this is the offset behind it."""
    # The offsets tell the sum of all other constants, up to a multiple of the period.
    return (spread.total - spread.offset + offset) % spread.period()


def best_offsets(spread):
    """Returns for each level the offsets that the fewest additions lead to.

    One addition more leads to all offsets of a level, wherever one comes
    from. So it never helps to leave the offsets with the fewest.
    """
    every = offset_ranges(spread.levels, 0)
    best = [[(low, high) for low, high in every if first_constant(spread, low) == 0] or every]
    for index in range(1, len(spread.levels)):
        size = 1 << spread.levels[index][0]
        every = offset_ranges(spread.levels, index)
        kept = []
        for low, high in best[-1]:
            kept.extend(alike(every, low, high, size))
        best.append(kept or every)
    return best


def chosen_offsets(spread):
    """Returns an offset for each level so that the fewest additions are needed."""
    best = best_offsets(spread)
    last = best[-1]
    offset = spread.offset if holds(last, spread.offset) else last[0][0]
    chosen = [offset]
    for index in range(len(best) - 1, 0, -1):
        ranges = best[index - 1]
        # Without an addition between them, both offsets leave the same rest.
        leading = alike(ranges, offset, offset, 1 << spread.levels[index][0]) or ranges
        offset = leading[0][0]
        chosen.append(offset)
    return chosen[::-1]


def word_of(levels, index, offset):
    """Returns the word with which the cast of a level leads to an offset."""
    return "u" if holds([offset_range(levels, index, "u")], offset) else "s"


def additions(constant):
    """Returns the chain that adds a constant, without steps if it is 0."""
    return [("add", constant)] if constant != 0 else []


def shortest(chain):
    """Returns a chain with the same function and as few steps as possible."""
    spread = spread_of(chain)
    levels = spread.levels
    if not levels:
        return additions(spread.total)
    offsets = chosen_offsets(spread)
    found = additions(first_constant(spread, offsets[0]))
    found.append((word_of(levels, 0, offsets[0]), levels[0][0]))
    for index in range(1, len(levels)):
        width = levels[index][0]
        found.extend(additions((offsets[index] - offsets[index - 1]) % (1 << width)))
        found.append((word_of(levels, index, offsets[index]), width))
    return found + additions(spread.offset - offsets[-1])


def fewest_steps(chain):
    """Returns the least number of steps in a chain with the same function."""
    return len(shortest(chain))


def fewest_casts(chain):
    """Returns the least number of casts in a chain with the same function."""
    return len(spread_of(chain).levels)
