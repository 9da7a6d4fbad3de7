"""Chains of some hundreds of steps and widths of three digits, as functions return them."""

import unittest

from castchains.errors import InvalidNumber
from castchains.forms import chain_of, form, same_function
from castchains.steps import converted, fits, stages
from castchains.values import nth_value, origins, value_intervals

BIG = 10 ** 30


def some_cuts(widths):
    """One cut for each further width, far apart from each other."""
    last = 2 ** widths[0] - 1
    return tuple([1 + (7 ** (place % 400 + 3) * (place + 11)) % last for place in range(len(widths) - 1)])


FORMS = [
    (1, tuple(range(1, 400)), (1,) * 398, -BIG),
    (77, tuple(range(8, 308)), some_cuts(tuple(range(8, 308))), 5),
    (12 ** 30, tuple(range(200, 500)), some_cuts(tuple(range(200, 500))), -7 ** 300),
    (2 ** 999 - 1, (999,), (), 0),
    (2 ** 64 - 1, (64, 998, 999), (1, 2 ** 64 - 1), BIG),
]


class LargeTest(unittest.TestCase):
    def test_forms_there_and_back(self):
        for wanted in FORMS:
            chain = chain_of(wanted)
            self.assertEqual(form(chain), wanted)
            self.assertIs(same_function(chain, [("add", 0), *chain]), True)
            self.assertIs(same_function(chain, [*chain, ("add", 1)]), False)
            self.assertIs(same_function(chain, [("add", 1), *chain]), False)

    def test_values_agree_with_the_chain(self):
        for wanted in FORMS:
            chain = chain_of(wanted)
            period = 2 ** wanted[1][0]
            ranges = value_intervals(chain)
            self.assertEqual(sum([high - low + 1 for low, high in ranges]), period)
            self.assertEqual(ranges[0][0], wanted[3])
            self.assertEqual(nth_value(chain, 0), ranges[0][0])
            self.assertEqual(nth_value(chain, period - 1), ranges[-1][1])
            self.assertRaises(InvalidNumber, nth_value, chain, period)
            # every range would take long; the first and the last one are among these
            for low, high in ranges[:2] + ranges[::40] + ranges[-2:]:
                for value in (low, high):
                    rest, found_period = origins(chain, value)
                    self.assertEqual(found_period, period)
                    self.assertEqual(converted(rest, chain), value)
                    self.assertEqual(converted(rest - 3 * period, chain), value)
                self.assertIs(origins(chain, low - 1), None)
                self.assertIs(origins(chain, high + 1), None)

    def test_all_values_of_a_long_chain(self):
        chain = chain_of(FORMS[1])
        values = sorted([converted(number, chain) for number in range(256)])
        for number in range(0, 256, 15):
            self.assertEqual(nth_value(chain, number), values[number])

    def test_many_casts_that_undo_each_other(self):
        chain = [("u", 100)]
        for place in range(300):
            chain.append(("add", 3 ** (place % 60) * 5))
            chain.append(("s" if place % 2 else "u", 120 + 37 * place % 800))
        self.assertEqual(form(chain_of(form(chain))), form(chain))
        for low, high in value_intervals(chain):
            self.assertEqual(converted(origins(chain, low)[0], chain), low)
            self.assertEqual(converted(origins(chain, high)[0], chain), high)

    def test_steps_of_wide_casts(self):
        self.assertEqual(converted(-1, [("u", 999)]), 2 ** 999 - 1)
        self.assertEqual(converted(2 ** 998, [("s", 999)]), -2 ** 998)
        self.assertIs(fits(2 ** 998, "s", 999), False)
        self.assertIs(fits(2 ** 998, "u", 999), True)
        chain = [("add", 2 ** 500)] * 700
        self.assertEqual(list(stages(0, chain))[-1], 700 * 2 ** 500)


if __name__ == "__main__":
    unittest.main()
