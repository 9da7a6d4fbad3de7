import unittest

from castchains.errors import InvalidStep
from castchains.steps import converted, fits, stages

from plain import cast_by_search, run, small_chains

BIG = 10 ** 30

# (chain, index of the first tuple that is not a step)
INVALID = [
    ([("u", 0)], 0),
    ([("s", 0)], 0),
    ([("u", -1)], 0),
    ([("s", -BIG)], 0),
    ([("x", 8)], 0),
    ([("", 8)], 0),
    ([("U", 8)], 0),
    ([("us", 8)], 0),
    ([("sub", 8)], 0),
    ([("u8", 8)], 0),
    ([("Add", 8)], 0),
    ([("u", 8), ("add", 0), ("s", 0)], 2),
    ([("u", 8), ("t", 8), ("u", 0), ("x", 1)], 1),
    ([("add", -5), ("u", 1), ("s", 64), ("ad", 1), ("s", -2)], 3),
]


class ConvertedTest(unittest.TestCase):
    def test_all_casts_of_small_widths(self):
        for word in ("u", "s"):
            for width in range(1, 6):
                for number in range(-70, 71):
                    with self.subTest(word=word, width=width, number=number):
                        found = converted(number, [(word, width)])
                        self.assertEqual(found, cast_by_search(number, word, width))
                        self.assertIs(type(found), int)

    def test_both_ends_without_sign(self):
        for width in (1, 2, 8, 16, 63, 64):
            size = 2 ** width
            chain = [("u", width)]
            pairs = [(0, 0), (size - 1, size - 1), (size, 0), (-1, size - 1),
                     (-size, 0), (-size - 1, size - 1), (size * 5 + 1, 1)]
            for number, wanted in pairs:
                with self.subTest(width=width, number=number):
                    self.assertEqual(converted(number, chain), wanted)

    def test_both_ends_with_sign(self):
        for width in (1, 2, 8, 16, 63, 64):
            half = 2 ** (width - 1)
            chain = [("s", width)]
            pairs = [(0, 0), (half - 1, half - 1), (half, -half), (-half, -half),
                     (-half - 1, half - 1), (2 * half, 0), (-2 * half, 0),
                     (half * 6 - 1, -1), (3 * half, -half)]
            for number, wanted in pairs:
                with self.subTest(width=width, number=number):
                    self.assertEqual(converted(number, chain), wanted)

    def test_width_1(self):
        self.assertEqual([converted(n, [("u", 1)]) for n in range(-3, 4)], [1, 0, 1, 0, 1, 0, 1])
        self.assertEqual([converted(n, [("s", 1)]) for n in range(-3, 4)], [-1, 0, -1, 0, -1, 0, -1])

    def test_addition(self):
        for number in (-BIG, -1, 0, 1, BIG):
            for constant in (-BIG, -3, 0, 4, BIG):
                with self.subTest(number=number, constant=constant):
                    self.assertEqual(converted(number, [("add", constant)]), number + constant)

    def test_empty_chain(self):
        for number in (-BIG, -1, 0, 1, BIG):
            self.assertEqual(converted(number, []), number)

    def test_from_the_first_step_to_the_last(self):
        self.assertEqual(converted(200, [("u", 8), ("add", 100), ("s", 8)]), 44)
        self.assertEqual(converted(200, [("s", 8), ("add", 100), ("u", 8)]), 44)
        self.assertEqual(converted(200, [("add", 100), ("u", 8), ("s", 8)]), 44)
        self.assertEqual(converted(200, [("u", 8), ("s", 8), ("add", 100)]), 44)
        self.assertEqual(converted(200, [("s", 8), ("u", 16), ("add", 100)]), 65580)
        self.assertEqual(converted(200, [("u", 16), ("s", 8), ("add", 100)]), 44)
        self.assertEqual(converted(BIG, [("u", 64), ("add", -BIG)]), BIG % 2 ** 64 - BIG)

    def test_small_chains(self):
        for chain in small_chains(3):
            for number in (-11, -4, 0, 3, 6, 13):
                self.assertEqual(converted(number, chain), run(number, chain), (number, chain))

    def test_invalid_steps(self):
        for chain, index in INVALID:
            with self.subTest(chain=chain):
                with self.assertRaises(InvalidStep) as context:
                    converted(5, chain)
                self.assertEqual(context.exception.value, index)


class StagesTest(unittest.TestCase):
    def test_every_step(self):
        chain = [("u", 8), ("add", -300), ("s", 8), ("u", 16), ("s", 1), ("add", 0)]
        self.assertEqual(list(stages(-56, chain)), [-56, 200, -100, -100, 65436, 0, 0])

    def test_one_number_more_than_steps(self):
        for chain in small_chains(3):
            found = list(stages(-13, chain))
            wanted = [run(-13, chain[:count]) for count in range(len(chain) + 1)]
            self.assertEqual(found, wanted, chain)

    def test_empty_chain(self):
        self.assertEqual(list(stages(-BIG, [])), [-BIG])

    def test_can_be_stopped(self):
        asked = iter(stages(300, [("u", 8), ("s", 4)]))
        self.assertEqual([next(asked), next(asked)], [300, 44])

    def test_invalid_steps_at_the_first_number(self):
        for chain, index in INVALID:
            with self.subTest(chain=chain):
                with self.assertRaises(InvalidStep) as context:
                    next(iter(stages(5, chain)))
                self.assertEqual(context.exception.value, index)


class FitsTest(unittest.TestCase):
    def test_both_ends(self):
        for width in (1, 2, 8, 33, 64):
            size = 2 ** width
            for word, low in (("u", 0), ("s", -size // 2)):
                with self.subTest(word=word, width=width):
                    self.assertIs(fits(low, word, width), True)
                    self.assertIs(fits(low + size - 1, word, width), True)
                    self.assertIs(fits(low - 1, word, width), False)
                    self.assertIs(fits(low + size, word, width), False)
                    self.assertIs(fits(low + 2 * size, word, width), False)

    def test_far_away(self):
        for word in ("u", "s"):
            self.assertIs(fits(BIG, word, 64), False)
            self.assertIs(fits(-BIG, word, 64), False)
            self.assertIs(fits(0, word, 64), True)

    def test_small_widths(self):
        for word in ("u", "s"):
            for width in range(1, 6):
                for number in range(-40, 41):
                    wanted = cast_by_search(number, word, width) == number
                    self.assertIs(fits(number, word, width), wanted, (number, word, width))

    def test_no_cast(self):
        for word, width in [("u", 0), ("s", 0), ("u", -8), ("s", -BIG), ("x", 8), ("", 1),
                            ("add", 8), ("add", 0), ("us", 8), ("S", 8)]:
            with self.subTest(word=word, width=width):
                with self.assertRaises(InvalidStep) as context:
                    fits(0, word, width)
                self.assertEqual(context.exception.value, 0)


if __name__ == "__main__":
    unittest.main()
