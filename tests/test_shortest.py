import unittest
from itertools import product

from castchains.errors import InvalidStep
from castchains.forms import chain_of, same_function
from castchains.shortest import fewest_casts, fewest_steps, shortest

from plain import casts_of, least_cost, run, small_chains, small_forms
from test_steps import INVALID

BIG = 10 ** 30

# (chain, least number of steps, least number of casts)
CHAINS = [
    # constants alone
    ([], 0, 0),
    ([("add", 0)], 0, 0),
    ([("add", 7), ("add", -7)], 0, 0),
    ([("add", 7), ("add", -8)], 1, 0),
    ([("add", BIG), ("add", BIG), ("add", 1)], 1, 0),
    # one cast
    ([("u", 64)], 1, 1),
    ([("add", 0), ("s", 64), ("add", 0)], 1, 1),
    ([("add", 2 ** 64), ("u", 64)], 1, 1),
    ([("add", 2 ** 63), ("u", 64), ("add", -2 ** 63)], 1, 1),
    ([("add", 2 ** 63), ("s", 64), ("add", 2 ** 63)], 1, 1),
    ([("add", 2 ** 63), ("u", 64)], 2, 1),
    ([("u", 64), ("add", -2 ** 63)], 2, 1),
    ([("add", 2 ** 63), ("u", 64), ("add", -2 ** 63 + 1)], 2, 1),
    ([("add", 1), ("u", 64), ("add", 1)], 3, 1),
    # needless steps
    ([("u", 64), ("s", 16), ("u", 8)], 1, 1),
    ([("u", 8), ("s", 16), ("u", 32), ("u", 64)], 1, 1),
    ([("s", 8), ("u", 16), ("s", 8)], 1, 1),
    ([("s", 8), ("u", 16), ("s", 16), ("u", 16)], 2, 2),
    ([("s", 8), ("u", 16), ("u", 32), ("s", 64)], 2, 2),
    ([("add", 3), ("s", 64), ("add", 5), ("s", 64), ("add", -8)], 3, 1),
    ([("add", 3), ("s", 64), ("add", -3), ("s", 64)], 1, 1),
    # a cast that only adds, as an addition could
    ([("s", 8), ("add", 128), ("u", 8), ("add", 65536), ("u", 16)], 2, 1),
    ([("u", 8), ("add", -256), ("u", 16)], 2, 1),
    # a wider gap leaves the word and the offset open
    ([("s", 8), ("u", 16), ("add", -65000), ("u", 32)], 4, 3),
    ([("s", 8), ("u", 16), ("add", 2 ** 15), ("u", 16), ("add", 2 ** 15), ("u", 32)], 2, 1),
    ([("s", 8), ("u", 16), ("add", 5), ("u", 32), ("add", 0), ("u", 64)], 3, 2),
]


class ShortestTest(unittest.TestCase):
    def assert_shortest(self, chain, steps):
        found = shortest(chain)
        self.assertTrue(same_function(found, chain), (chain, found))
        self.assertEqual((len(found), fewest_steps(chain)), (steps, steps), (chain, found))
        return found

    def test_known_lengths(self):
        for chain, steps, casts in CHAINS:
            with self.subTest(chain=chain):
                self.assert_shortest(chain, steps)
                self.assertEqual(fewest_casts(chain), casts)

    def test_words_of_single_casts(self):
        self.assertEqual(shortest([("add", 0), ("u", 5)]), [("u", 5)])
        self.assertEqual(shortest([("add", 16), ("u", 5), ("add", -16)]), [("s", 5)])
        self.assertEqual(shortest([("add", 1), ("s", 1), ("add", 1)]), [("u", 1)])
        self.assertEqual(shortest([("add", 3), ("add", 4)]), [("add", 7)])
        self.assertEqual(shortest([("add", 3), ("add", -3)]), [])

    def test_small_chains_by_trying(self):
        for chain in small_chains():
            found = self.assert_shortest(chain, least_cost(chain, 3, 1))
            self.assertEqual(fewest_casts(chain), least_cost(chain, 3, 0), chain)
            for number in (-9, -4, -1, 0, 1, 2, 3, 4, 5, 6, 7, 14):
                self.assertEqual(run(number, found), run(number, chain), (number, chain))

    def test_wider_casts_do_not_help(self):
        for chain in small_chains(3):
            self.assert_shortest(chain, least_cost(chain, 4, 1))

    def test_small_forms_by_trying(self):
        for wanted in small_forms():
            chain = chain_of(wanted)
            self.assert_shortest(chain, least_cost(chain, 4, 1))
            self.assertEqual(fewest_casts(chain), least_cost(chain, 4, 0), chain)
            self.assertEqual(fewest_casts(chain), len(wanted[1]))

    def test_ends_of_values_by_trying(self):
        # the least values decide which offsets behind the last cast need no addition
        for widths, cuts in (((1, 2), (1,)), ((1, 4), (1,)), ((2, 3), (3,)), ((3, 4), (5,)), ((1, 2, 3), (1, 1)),
                             ((1, 3, 4), (1, 1)), ((2, 3, 4), (1, 3)), ((1, 2, 3, 4), (1, 1, 1))):
            for shift, least in product(range(2 ** widths[0]), range(-20, 20)):
                chain = chain_of((shift, widths, cuts, least))
                self.assert_shortest(chain, least_cost(chain, 4, 1))

    def test_additions_where_casts_cannot_replace_them(self):
        for word, other in product("us", repeat=2):
            for first, second, third in product((0, 3, 128, 32768, 40000), repeat=3):
                chain = [("add", first), (word, 8), ("add", second), (other, 16), ("add", third)]
                kept = [step for step in chain if step[1] != 0]
                found = shortest(chain)
                self.assertTrue(same_function(found, chain), chain)
                self.assertLessEqual(len(found), len(kept), chain)
                self.assertEqual(fewest_casts(chain), len(casts_of(found)), chain)

    def test_a_list_of_steps(self):
        for chain, _, _ in CHAINS:
            found = shortest(chain)
            self.assertIs(type(found), list)
            for step in found:
                self.assertIs(type(step), tuple)
                self.assertEqual([type(part) for part in step], [str, int])
            self.assertIs(type(fewest_casts(chain)), int)
            self.assertIs(type(fewest_steps(chain)), int)

    def test_invalid_steps(self):
        for chain, index in INVALID:
            for call in (fewest_casts, fewest_steps, shortest):
                with self.subTest(chain=chain, call=call):
                    with self.assertRaises(InvalidStep) as context:
                        call(chain)
                    self.assertEqual(context.exception.value, index)


if __name__ == "__main__":
    unittest.main()
