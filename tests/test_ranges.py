import unittest

from castchains.errors import InvalidRange, InvalidStep
from castchains.ranges import count_inputs, outputs, unchanged
from castchains.steps import converted
from castchains.values import nth_value, value_intervals

from plain import casts_of, maximal_ranges, run, small_chains
from test_steps import INVALID
from test_values import WITHOUT_CASTS

BIG = 10 ** 30

# Chains of more or wider casts than the small ones, still with at most 64 values.
WIDER = [
    [("u", 5), ("add", 100), ("u", 7), ("add", 5), ("s", 8)],
    [("s", 5), ("u", 7), ("add", 13), ("u", 8), ("add", -3), ("s", 10), ("u", 12)],
    [("add", 77), ("u", 6), ("add", -20), ("u", 7), ("add", -40), ("u", 8), ("add", -60), ("u", 9),
     ("add", -300), ("u", 10)],
    [("add", -3), ("s", 3), ("u", 64), ("add", BIG)],
]
WIDE = [
    [("u", 64)],
    [("s", 64)],
    [("add", BIG), ("s", 64), ("add", -BIG)],
    [("s", 63), ("u", 64)],
    [("add", 5), ("s", 40), ("add", 2 ** 50), ("u", 52), ("add", 2 ** 51 + 3), ("s", 60), ("u", 64)],
]


def period_of(chain):
    return 2 ** min([width for _, width in casts_of(chain)])


class OutputsTest(unittest.TestCase):
    def test_small_chains(self):
        for chain in small_chains(3):
            results = {number: run(number, chain) for number in range(-11, 20)}
            for first in (-11, -8, -3, 0, 1, 6):
                # the periods are 2, 4 and 8: shorter ranges, as long ones, longer ones
                for last in range(first, first + 10):
                    wanted = maximal_ranges({results[number] for number in range(first, last + 1)})
                    self.assertEqual(outputs(chain, first, last), wanted, (chain, first, last))

    def test_wider_chains(self):
        for chain in WIDER:
            period = period_of(chain)
            for first in (-70, -1, 0, 13, 50):
                for length in [*range(1, period + 3), 5 * period]:
                    numbers = range(first, first + length)
                    wanted = maximal_ranges({converted(number, chain) for number in numbers})
                    self.assertEqual(outputs(chain, first, first + length - 1), wanted, (chain, first, length))

    def test_ranges_about_as_long_as_the_period(self):
        for chain in WIDE:
            period = period_of(chain)
            every = value_intervals(chain)
            for first in (-BIG, -1, 0, 1, 2 ** 39, BIG):
                with self.subTest(chain=chain, first=first):
                    self.assertEqual(outputs(chain, first, first + period - 1), every)
                    self.assertEqual(outputs(chain, first, first + period), every)
                    self.assertEqual(outputs(chain, first, first + BIG), every)
                    missing = converted(first + period - 1, chain)
                    found = outputs(chain, first, first + period - 2)
                    self.assertEqual(sum([high - low + 1 for low, high in found]), period - 1)
                    self.assertFalse(any([low <= missing <= high for low, high in found]))

    def test_short_ranges_of_wide_casts(self):
        for chain in WIDE:
            period = period_of(chain)
            for middle in (-BIG, 0, -period // 2, period // 2, period, 3 * period - 5, BIG):
                for first, last in ((middle - 40, middle + 30), (middle, middle), (middle - 1, middle)):
                    with self.subTest(chain=chain, first=first, last=last):
                        numbers = range(first, last + 1)
                        wanted = maximal_ranges({converted(number, chain) for number in numbers})
                        self.assertEqual(outputs(chain, first, last), wanted)

    def test_both_ends_of_one_range_of_values(self):
        self.assertEqual(outputs([("u", 8)], 200, 300), [(0, 44), (200, 255)])
        self.assertEqual(outputs([("s", 64)], 2 ** 62, 2 ** 64), [(-2 ** 63, 0), (2 ** 62, 2 ** 63 - 1)])
        self.assertEqual(outputs([("u", 8)], 1, 255), [(1, 255)])
        self.assertEqual(outputs([("u", 8)], 2, 256), [(0, 0), (2, 255)])
        self.assertEqual(outputs([("u", 8)], 1, 256), [(0, 255)])

    def test_without_casts(self):
        for chain in WITHOUT_CASTS:
            for first, last in ((0, 0), (-5, 9), (-BIG, BIG), (BIG, BIG)):
                total = run(0, chain)
                self.assertEqual(outputs(chain, first, last), [(first + total, last + total)])

    def test_a_list_of_tuples(self):
        for found in (outputs([("s", 8)], 100, 130), outputs([], 1, 2), outputs([("u", 1)], 0, 9)):
            self.assertIs(type(found), list)
            self.assertEqual([type(part) for part in found], [tuple] * len(found))

    def test_errors(self):
        for chain in ([("u", 8)], [], [("add", 3)]):
            for first, last in ((1, 0), (BIG, -BIG), (-4, -5)):
                with self.assertRaises(InvalidRange) as context:
                    outputs(chain, first, last)
                self.assertEqual(context.exception.value, (first, last))

    def test_the_check_of_the_chain_comes_first(self):
        for chain, index in INVALID:
            for first, last in ((0, 0), (1, 0)):
                with self.assertRaises(InvalidStep) as context:
                    outputs(chain, first, last)
                self.assertEqual(context.exception.value, index)


class CountInputsTest(unittest.TestCase):
    def test_small_chains(self):
        for chain in small_chains(3):
            results = {number: run(number, chain) for number in range(-11, 20)}
            for first, last in ((-11, 19), (-8, -8), (-3, 4), (0, 1), (0, 7), (1, 8), (6, 18)):
                for low, high in ((-30, 30), (-4, 3), (0, 0), (-1, -1), (1, 6), (2, 4), (7, 11)):
                    wanted = len([n for n in range(first, last + 1) if low <= results[n] <= high])
                    found = count_inputs(chain, first, last, low, high)
                    self.assertEqual(found, wanted, (chain, first, last, low, high))
                    self.assertIs(type(found), int)

    def test_wider_chains(self):
        for chain in WIDER:
            results = {number: converted(number, chain) for number in range(-100, 200)}
            ends = sorted(set(results.values()))
            for first, last in ((-100, 199), (-64, -1), (0, 0), (0, 63), (13, 77), (150, 160)):
                for low in ends[::7]:
                    for high in ends[3::9]:
                        if low <= high:
                            wanted = len([n for n in range(first, last + 1) if low <= results[n] <= high])
                            self.assertEqual(count_inputs(chain, first, last, low, high), wanted)

    def test_short_ranges_of_wide_casts(self):
        for chain in WIDE:
            period = period_of(chain)
            for middle in (-BIG, -period, -period // 2, 0, period // 2, 7 * period, BIG):
                first, last = middle - 30, middle + 33
                results = [converted(number, chain) for number in range(first, last + 1)]
                for low, high in ((min(results), max(results)), (results[0], results[0]),
                                  (results[20], results[20] + 9), (results[-1] - 5, results[-1] + 5), (-BIG, BIG)):
                    wanted = len([result for result in results if low <= result <= high])
                    self.assertEqual(count_inputs(chain, first, last, low, high), wanted, (chain, middle, low, high))

    def test_ranges_put_together_from_parts(self):
        for chain in WIDE + WIDER:
            period = period_of(chain)
            lows = [-BIG, -2 ** 63, -77, 0, 2 ** 51, 2 ** 63, BIG]
            for low, high in zip(lows, lows[1:]):
                for place in (-BIG, -5 * period - 3, 0, 3 * period // 4, BIG):
                    with self.subTest(chain=chain, low=low, place=place):
                        whole = count_inputs(chain, -2 * BIG, 2 * BIG, low, high)
                        before = count_inputs(chain, -2 * BIG, place, low, high)
                        behind = count_inputs(chain, place + 1, 2 * BIG, low, high)
                        self.assertEqual(whole, before + behind)
                        again = count_inputs(chain, place + 3 * period, 2 * BIG + 3 * period, low, high)
                        self.assertEqual(again, count_inputs(chain, place, 2 * BIG, low, high))

    def test_values_put_together_from_parts(self):
        far = 10 ** 40
        for chain in WIDE + WIDER:
            for first, last in ((-BIG, BIG), (0, 2 ** 62), (-2 ** 63, -2 ** 61), (5, 5)):
                for value in (-BIG, -2 ** 63, -1, 0, 40, 2 ** 51, 2 ** 63, BIG):
                    with self.subTest(chain=chain, first=first, value=value):
                        below = count_inputs(chain, first, last, -far, value)
                        above = count_inputs(chain, first, last, value + 1, far)
                        self.assertEqual(below + above, last - first + 1)

    def test_each_value_once_in_a_period(self):
        for chain in WIDE:
            period = period_of(chain)
            for place in (0, 1, period // 3, period - 1):
                value = nth_value(chain, place)
                self.assertEqual(count_inputs(chain, BIG, BIG + period - 1, value, value), 1)
                self.assertEqual(count_inputs(chain, -BIG, -BIG + 9 * period - 1, value, value), 9)

    def test_narrow_casts_and_far_ranges(self):
        self.assertEqual(count_inputs([("u", 1)], 0, BIG, 0, 0), BIG // 2 + 1)
        self.assertEqual(count_inputs([("u", 1)], 0, BIG, 1, 1), BIG // 2)
        self.assertEqual(count_inputs([("u", 1)], -BIG, BIG, -BIG, BIG), 2 * BIG + 1)
        self.assertEqual(count_inputs([("s", 8), ("u", 16)], -2 ** 90, 2 ** 90 - 1, 128, 65407), 0)
        self.assertEqual(count_inputs([("s", 8), ("u", 16)], -2 ** 90, 2 ** 90 - 1, 127, 65408), 2 ** 84)

    def test_without_casts(self):
        self.assertEqual(count_inputs([], 0, 10, 5, 20), 6)
        self.assertEqual(count_inputs([("add", 3)], 0, 10, 5, 20), 9)
        self.assertEqual(count_inputs([("add", 3)], 0, 10, 13, 20), 1)
        self.assertEqual(count_inputs([("add", 3)], 0, 10, 14, 20), 0)
        self.assertEqual(count_inputs([("add", -BIG)], -BIG, BIG, -BIG, BIG), BIG + 1)

    def test_errors(self):
        for chain in ([("u", 8)], [], [("add", 3)]):
            for first, last, low, high, wanted in (
                (1, 0, 0, 0, (1, 0)),
                (0, 0, 1, 0, (1, 0)),
                (3, 2, 5, 4, (3, 2)),
                (2, 3, 5, -BIG, (5, -BIG)),
                (BIG, -BIG, 0, 1, (BIG, -BIG)),
            ):
                with self.assertRaises(InvalidRange) as context:
                    count_inputs(chain, first, last, low, high)
                self.assertEqual(context.exception.value, wanted)

    def test_the_check_of_the_chain_comes_first(self):
        for chain, index in INVALID:
            for numbers in ((0, 0, 0, 0), (1, 0, 0, 0), (0, 0, 1, 0), (1, 0, 1, 0)):
                with self.assertRaises(InvalidStep) as context:
                    count_inputs(chain, *numbers)
                self.assertEqual(context.exception.value, index)


class UnchangedTest(unittest.TestCase):
    def test_small_chains(self):
        for chain in small_chains():
            if casts_of(chain):
                # no other number than a value is left as it is
                values = [run(number, chain) for number in range(period_of(chain))]
                wanted = maximal_ranges([value for value in values if run(value, chain) == value])
                self.assertEqual(unchanged(chain), wanted, chain)

    def test_wider_chains(self):
        for chain in WIDER:
            for constant in range(-8, 72):
                moved = [("add", constant), *chain]
                values = [converted(number, moved) for number in range(period_of(chain))]
                wanted = maximal_ranges([value for value in values if converted(value, moved) == value])
                self.assertEqual(unchanged(moved), wanted, moved)

    def test_wide_casts(self):
        self.assertEqual(unchanged([("u", 64)]), [(0, 2 ** 64 - 1)])
        self.assertEqual(unchanged([("s", 64)]), [(-2 ** 63, 2 ** 63 - 1)])
        self.assertEqual(unchanged([("add", 1), ("u", 64)]), [])
        self.assertEqual(unchanged([("u", 64), ("add", 2 ** 64)]), [(2 ** 64, 2 ** 65 - 1)])
        self.assertEqual(unchanged([("add", BIG), ("u", 64), ("add", -BIG)]), [(-BIG, 2 ** 64 - 1 - BIG)])

    def test_without_casts(self):
        for chain in ([], [("add", 0)], [("add", 5), ("add", -5)], [("add", BIG), ("add", -BIG)]):
            self.assertIs(unchanged(chain), None)
        for chain in ([("add", 1)], [("add", -BIG)], [("add", 5), ("add", -6)], [("add", 2 ** 64)]):
            self.assertEqual(unchanged(chain), [])

    def test_invalid_steps(self):
        for chain, index in INVALID:
            with self.assertRaises(InvalidStep) as context:
                unchanged(chain)
            self.assertEqual(context.exception.value, index)


if __name__ == "__main__":
    unittest.main()
