import unittest

from castchains.errors import InvalidNumber, InvalidStep
from castchains.values import nth_value, origins, value_intervals

from plain import casts_of, maximal_ranges, run, small_chains
from test_steps import INVALID

BIG = 10 ** 30
WITHOUT_CASTS = [[], [("add", 0)], [("add", 3), ("add", -10)], [("add", BIG)]]


def values_of(chain):
    """All values of a chain with casts, and its period."""
    period = 2 ** min([width for _, width in casts_of(chain)])
    return sorted([run(number, chain) for number in range(period)]), period


class ValueIntervalsTest(unittest.TestCase):
    def test_small_chains(self):
        for chain in small_chains():
            if casts_of(chain):
                values, period = values_of(chain)
                self.assertEqual(value_intervals(chain), maximal_ranges(values), chain)
                self.assertEqual(len({value % period for value in values}), period, chain)

    def test_wider_chains(self):
        for chain in [
            [("u", 5), ("add", 100), ("u", 7), ("add", 5), ("s", 8)],
            [("s", 5), ("u", 7), ("add", 13), ("u", 8), ("add", -3), ("s", 10), ("u", 12)],
            [("u", 6), ("add", -20), ("u", 7), ("add", -40), ("u", 8), ("add", -60), ("u", 9),
             ("add", -300), ("u", 10)],
        ]:
            with self.subTest(chain=chain):
                values, _ = values_of(chain)
                self.assertEqual(value_intervals(chain), maximal_ranges(values))

    def test_ends_of_wide_casts(self):
        self.assertEqual(value_intervals([("u", 64)]), [(0, 2 ** 64 - 1)])
        self.assertEqual(value_intervals([("s", 64)]), [(-2 ** 63, 2 ** 63 - 1)])
        self.assertEqual(value_intervals([("s", 1), ("add", BIG)]), [(BIG - 1, BIG)])
        self.assertEqual(value_intervals([("s", 63), ("u", 64)]),
                         [(0, 2 ** 62 - 1), (2 ** 64 - 2 ** 62, 2 ** 64 - 1)])

    def test_a_list_of_tuples(self):
        found = value_intervals([("s", 8), ("u", 16)])
        self.assertIs(type(found), list)
        self.assertEqual([type(part) for part in found], [tuple, tuple])

    def test_without_casts(self):
        for chain in WITHOUT_CASTS:
            self.assertIs(value_intervals(chain), None)

    def test_invalid_steps(self):
        for chain, index in INVALID:
            with self.subTest(chain=chain):
                with self.assertRaises(InvalidStep) as context:
                    value_intervals(chain)
                self.assertEqual(context.exception.value, index)


class NthValueTest(unittest.TestCase):
    def assert_no_value(self, chain, number):
        with self.assertRaises(InvalidNumber) as context:
            nth_value(chain, number)
        self.assertEqual(context.exception.value, number)

    def test_small_chains(self):
        for chain in small_chains(3):
            if casts_of(chain):
                values, period = values_of(chain)
                found = [nth_value(chain, number) for number in range(period)]
                self.assertEqual(found, values, chain)

    def test_first_and_last(self):
        for chain, first, last in [
            ([("u", 1)], 0, 1),
            ([("u", 64)], 0, 2 ** 64 - 1),
            ([("s", 64)], -2 ** 63, 2 ** 63 - 1),
            ([("s", 8), ("u", 64)], 0, 2 ** 64 - 1),
            ([("u", 8), ("add", 32700), ("s", 16)], -32768, 32767),
        ]:
            with self.subTest(chain=chain):
                period = 2 ** chain[0][1]
                self.assertEqual(nth_value(chain, 0), first)
                self.assertEqual(nth_value(chain, period - 1), last)
                self.assert_no_value(chain, -1)
                self.assert_no_value(chain, period)
                self.assert_no_value(chain, -BIG)
                self.assert_no_value(chain, BIG)

    def test_both_sides_of_a_gap(self):
        chain = [("s", 63), ("u", 64)]
        self.assertEqual(nth_value(chain, 2 ** 62 - 1), 2 ** 62 - 1)
        self.assertEqual(nth_value(chain, 2 ** 62), 2 ** 64 - 2 ** 62)

    def test_without_casts(self):
        for chain in WITHOUT_CASTS:
            for number in (-1, 0, 1, BIG):
                self.assert_no_value(chain, number)

    def test_the_check_of_the_chain_comes_first(self):
        for chain, index in INVALID:
            for number in (0, -1, BIG):
                with self.subTest(chain=chain, number=number):
                    with self.assertRaises(InvalidStep) as context:
                        nth_value(chain, number)
                    self.assertEqual(context.exception.value, index)


class OriginsTest(unittest.TestCase):
    def test_small_chains(self):
        for chain in small_chains(3):
            if not casts_of(chain):
                continue
            values, period = values_of(chain)
            results = {number: run(number, chain) for number in range(-8, 8)}
            for value in range(-20, 30):
                found = origins(chain, value)
                if value not in values:
                    self.assertIs(found, None, (chain, value))
                    continue
                self.assertEqual(found[1], period, (chain, value))
                self.assertIn(found[0], range(period), (chain, value))
                leading = [number for number in results if results[number] == value]
                wanted = [number for number in results if number % period == found[0]]
                self.assertEqual(leading, wanted, (chain, value))

    def test_wide_casts(self):
        size = 2 ** 64
        self.assertEqual(origins([("u", 64)], size - 1), (size - 1, size))
        self.assertIs(origins([("u", 64)], size), None)
        self.assertIs(origins([("u", 64)], -1), None)
        self.assertEqual(origins([("s", 64)], -size // 2), (size // 2, size))
        self.assertIs(origins([("s", 64)], size // 2), None)
        self.assertEqual(origins([("add", 1), ("u", 64)], 0), (size - 1, size))
        self.assertEqual(origins([("s", 8), ("u", 64)], size - 128), (128, 256))
        self.assertIs(origins([("s", 8), ("u", 64)], size - 129), None)
        self.assertIs(origins([("s", 8), ("u", 64)], BIG), None)
        self.assertIs(origins([("s", 8), ("u", 64)], -BIG), None)

    def test_without_casts(self):
        self.assertEqual(origins([], 7), (7, None))
        self.assertEqual(origins([], -BIG), (-BIG, None))
        self.assertEqual(origins([("add", 3), ("add", -10)], 0), (7, None))
        self.assertEqual(origins([("add", BIG)], -BIG), (-2 * BIG, None))

    def test_a_tuple(self):
        self.assertIs(type(origins([], 7)), tuple)
        self.assertIs(type(origins([("u", 3)], 7)), tuple)

    def test_invalid_steps(self):
        for chain, index in INVALID:
            with self.subTest(chain=chain):
                with self.assertRaises(InvalidStep) as context:
                    origins(chain, 10)
                self.assertEqual(context.exception.value, index)


if __name__ == "__main__":
    unittest.main()
