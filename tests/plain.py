"""What the document says, done number by number: slow, and only for small widths."""

from functools import lru_cache
from heapq import heappop, heappush
from itertools import product

STEPS = [("u", 1), ("s", 1), ("u", 2), ("s", 2), ("u", 3), ("s", 3),
         ("add", 1), ("add", -2), ("add", 5)]


def small_chains(length=4):
    """All chains of at most so many of these steps."""
    return [list(steps) for count in range(length + 1)
            for steps in product(STEPS, repeat=count)]


def casts_of(chain):
    return [step for step in chain if step[0] != "add"]


@lru_cache(maxsize=None)
def cast_by_search(number, word, width):
    size = 2 ** width
    low = 0 if word == "u" else -size // 2
    (found,) = [n for n in range(low, low + size) if (n - number) % size == 0]
    return found


def run(number, chain):
    for word, amount in chain:
        if word == "add":
            number = number + amount
        else:
            number = cast_by_search(number, word, amount)
    return number


def table(chain):
    """What a chain of STEPS makes of enough numbers to tell it from other such chains."""
    return tuple([run(number, chain) for number in range(-8, 16)])


@lru_cache(maxsize=None)
def numbers_of_form(wanted):
    """The values that a form with widths means."""
    _, widths, cuts, least = wanted
    numbers = list(range(2 ** widths[0]))
    for width, cut in zip(widths[1:], cuts):
        ordered = sorted(numbers)
        numbers = ordered[:cut] + [n - 2 ** width for n in ordered[cut:]]
    constant = least - min(numbers)
    return sorted([n + constant for n in numbers])


def run_form(number, wanted):
    """What the function that a form means makes of a number."""
    shift, widths, _, _ = wanted
    if not widths:
        return number + shift
    size = 2 ** widths[0]
    (found,) = [n for n in numbers_of_form(wanted) if (n - number - shift) % size == 0]
    return found


def maximal_ranges(numbers):
    """Numbers as a list of (low, high)."""
    found = []
    for number in sorted(numbers):
        if found and found[-1][1] == number - 1:
            found[-1] = (found[-1][0], number)
        else:
            found.append((number, number))
    return found


def small_forms():
    """All forms with widths of 1 to 4 and some least values, but none without widths."""
    forms = []
    for widths in [(1,), (2,), (3,), (1, 2), (1, 3), (2, 3), (2, 4), (3, 4),
                   (1, 2, 3), (1, 2, 4), (2, 3, 4), (1, 2, 3, 4)]:
        size = 2 ** widths[0]
        for cuts in product(range(1, size), repeat=len(widths) - 1):
            for shift in range(size):
                for least in (-9, 0, 4):
                    forms.append((shift, widths, cuts, least))
    return forms


@lru_cache(maxsize=None)
def costs_behind_casts(widest, step_cost):
    """What the cheapest chains of casts of at most some width cost that end in a cast or are empty.

    A cast costs 1, an addition step_cost. The keys are what a chain makes of the numbers from 0 to
    2 ** widest; the last one tells functions that repeat from additions alone. Behind an addition a
    cast of n bits takes a constant as its remainder modulo 2 ** n, so this tries all constants.
    """
    size = 2 ** widest
    start = tuple(range(size + 1))
    costs = {start: 0}
    queue = [(0, start)]
    while queue:
        cost, results = heappop(queue)
        if cost > costs[results]:
            continue
        for width in range(1, widest + 1):
            for constant in range(2 ** width):
                rests = [(number + constant) % 2 ** width for number in results]
                # the two casts, as they are where all numbers are at hand as remainders
                for limit in (2 ** width, 2 ** (width - 1)):
                    found = tuple([rest if rest < limit else rest - 2 ** width for rest in rests])
                    whole = cost + 1 + (step_cost if constant else 0)
                    if whole < costs.get(found, whole + 1):
                        costs[found] = whole
                        heappush(queue, (whole, found))
    return costs


@lru_cache(maxsize=None)
def costs_before_addition(widest, step_cost):
    """The same for chains with an addition behind them, by what they make of numbers less the first result."""
    costs = {}
    for results, cost in costs_behind_casts(widest, step_cost).items():
        shape = tuple([number - results[0] for number in results])
        costs[shape] = min(cost + step_cost, costs.get(shape, cost + step_cost))
    return costs


def least_cost(chain, widest, step_cost):
    """The least cost of a chain with the same function, found by trying."""
    results = tuple([run(number, chain) for number in range(2 ** widest + 1)])
    shape = tuple([number - results[0] for number in results])
    added = costs_before_addition(widest, step_cost)[shape]
    return min(added, costs_behind_casts(widest, step_cost).get(results, added))
