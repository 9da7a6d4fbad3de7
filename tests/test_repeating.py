import unittest

from castchains.errors import InvalidNumber, InvalidRange, InvalidStep
from castchains.repeating import repeated, undoing
from castchains.steps import converted

from plain import casts_of, run, small_chains
from test_ranges import WIDE, WIDER, period_of
from test_steps import INVALID
from test_values import WITHOUT_CASTS

BIG = 10 ** 30


class RepeatedTest(unittest.TestCase):
    def test_small_chains(self):
        for chain in small_chains(3):
            for start in (-7, 0, 5, 12):
                number = start
                for times in range(10):
                    self.assertEqual(repeated(start, chain, times), number, (start, chain, times))
                    number = run(number, chain)

    def test_wider_chains(self):
        for chain in WIDER + WIDE:
            for start in (-BIG, -1, 0, 2 ** 63, BIG):
                number = start
                for times in range(80):
                    self.assertEqual(repeated(start, chain, times), number, (start, chain, times))
                    number = converted(number, chain)

    def test_not_at_all(self):
        for chain in WIDE + WIDER + WITHOUT_CASTS:
            for number in (-BIG, -1, 0, 300, BIG):
                self.assertEqual(repeated(number, chain, 0), number)

    def test_very_many_times(self):
        for chain in WIDER:
            # the values are led around in a circle of at most 64
            circle = [converted(13, chain)]
            for _ in range(63):
                circle.append(converted(circle[-1], chain))
            for times in (1, 64, 65, 10 ** 20, BIG - 1, BIG, 10 ** 100 + 7):
                self.assertEqual(repeated(13, chain, times), circle[(times - 1) % 64], (chain, times))
        self.assertEqual(repeated(0, [("add", 1), ("u", 64)], BIG), BIG % 2 ** 64)
        self.assertEqual(repeated(7, [("add", -1), ("u", 64)], BIG), (7 - BIG) % 2 ** 64)
        self.assertEqual(repeated(2 ** 64, [("u", 64), ("add", 2 ** 64)], BIG), 2 ** 64)

    def test_put_together_from_parts(self):
        for chain in WIDE:
            for times, more in ((1, BIG - 1), (BIG // 3, BIG // 7), (2 ** 64, 2 ** 63 + 1)):
                whole = repeated(-5, chain, times + more)
                self.assertEqual(repeated(repeated(-5, chain, times), chain, more), whole)

    def test_without_casts(self):
        self.assertEqual(repeated(5, [], BIG), 5)
        self.assertEqual(repeated(5, [("add", 3), ("add", -10)], 4), -23)
        self.assertEqual(repeated(-5, [("add", BIG)], BIG), BIG * BIG - 5)

    def test_negative_times(self):
        for chain in ([], [("add", 3)], [("u", 8)]):
            for times in (-1, -2, -BIG):
                with self.assertRaises(InvalidNumber) as context:
                    repeated(0, chain, times)
                self.assertEqual(context.exception.value, times)

    def test_the_check_of_the_chain_comes_first(self):
        for chain, index in INVALID:
            for times in (0, 1, BIG, -1):
                with self.assertRaises(InvalidStep) as context:
                    repeated(5, chain, times)
                self.assertEqual(context.exception.value, index)


class UndoingTest(unittest.TestCase):
    def test_small_chains(self):
        for chain in small_chains(3):
            for first in (-12, -3, 0, 5):
                for length in range(1, 11):
                    numbers = range(first, first + length)
                    found = undoing(chain, first, first + length - 1)
                    results = [run(number, chain) for number in numbers]
                    if len(set(results)) < length:
                        self.assertIs(found, None, (chain, first, length))
                    else:
                        self.assertEqual([run(result, found) for result in results], list(numbers), chain)

    def test_wider_chains(self):
        for chain in WIDER:
            period = period_of(chain)
            for first in (-BIG, -100, -1, 0, 77, BIG):
                for length in (1, 2, period - 1, period):
                    found = undoing(chain, first, first + length - 1)
                    for number in range(first, first + length):
                        self.assertEqual(converted(converted(number, chain), found), number)
                self.assertIs(undoing(chain, first, first + period), None)
                self.assertIs(undoing(chain, first, first + BIG), None)

    def test_wide_casts(self):
        for chain in WIDE:
            period = period_of(chain)
            for first in (-BIG, -period, -1, 0, 1, period // 2, BIG):
                for last in (first, first + 1, first + period // 2 - 1, first + period - 2, first + period - 1):
                    found = undoing(chain, first, last)
                    for number in (first, (first + last) // 2, first + (last - first) // 3, last - 1, last):
                        if first <= number:
                            self.assertEqual(converted(converted(number, chain), found), number)
                self.assertIs(undoing(chain, first, first + period), None)
                self.assertIs(undoing(chain, first, first + period + 1), None)

    def test_without_casts(self):
        for chain in WITHOUT_CASTS:
            for first, last in ((0, 0), (-3, 9), (-BIG, BIG)):
                found = undoing(chain, first, last)
                for number in (first, first // 2, last):
                    self.assertEqual(converted(converted(number, chain), found), number)

    def test_a_list_of_steps(self):
        for chain in WIDE + WITHOUT_CASTS:
            found = undoing(chain, 3, 9)
            self.assertIs(type(found), list)
            for step in found:
                self.assertIs(type(step), tuple)
                self.assertEqual([type(part) for part in step], [str, int])

    def test_errors(self):
        for chain in ([("u", 8)], [], [("add", 3)]):
            for first, last in ((1, 0), (BIG, -BIG), (0, -300)):
                with self.assertRaises(InvalidRange) as context:
                    undoing(chain, first, last)
                self.assertEqual(context.exception.value, (first, last))

    def test_the_check_of_the_chain_comes_first(self):
        for chain, index in INVALID:
            for first, last in ((0, 0), (1, 0), (0, BIG)):
                with self.assertRaises(InvalidStep) as context:
                    undoing(chain, first, last)
                self.assertEqual(context.exception.value, index)


if __name__ == "__main__":
    unittest.main()
