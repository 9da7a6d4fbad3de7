"""Chains of some hundreds of steps and widths of three digits, as functions return them."""

import unittest

from castchains.errors import InvalidNumber
from castchains.forms import chain_of, form, same_function
from castchains.parting import commute, parting_number
from castchains.ranges import count_inputs, outputs, unchanged
from castchains.repeating import repeated, undoing
from castchains.shortest import fewest_casts, fewest_steps, shortest
from castchains.steps import converted, fits, stages
from castchains.values import nth_value, origins, value_intervals

BIG = 10 ** 30


def some_cuts(widths):
    """One cut for each further width, far apart from each other."""
    last = 2 ** widths[0] - 1
    return tuple([1 + (7 ** (place % 400 + 3) * (place + 11)) % last for place in range(len(widths) - 1)])


FORMS = [
    (1, tuple(range(1, 400)), (1,) * 398, -BIG),
    (77, tuple(range(8, 308)), some_cuts(tuple(range(8, 308))), 5),
    (12 ** 30, tuple(range(200, 500)), some_cuts(tuple(range(200, 500))), -7 ** 300),
    (2 ** 999 - 1, (999,), (), 0),
    (2 ** 64 - 1, (64, 998, 999), (1, 2 ** 64 - 1), BIG),
]


class LargeTest(unittest.TestCase):
    def test_forms_there_and_back(self):
        for wanted in FORMS:
            chain = chain_of(wanted)
            self.assertEqual(form(chain), wanted)
            self.assertIs(same_function(chain, [("add", 0), *chain]), True)
            self.assertIs(same_function(chain, [*chain, ("add", 1)]), False)
            self.assertIs(same_function(chain, [("add", 1), *chain]), False)

    def test_values_agree_with_the_chain(self):
        for wanted in FORMS:
            chain = chain_of(wanted)
            period = 2 ** wanted[1][0]
            ranges = value_intervals(chain)
            self.assertEqual(sum([high - low + 1 for low, high in ranges]), period)
            self.assertEqual(ranges[0][0], wanted[3])
            self.assertEqual(nth_value(chain, 0), ranges[0][0])
            self.assertEqual(nth_value(chain, period - 1), ranges[-1][1])
            self.assertRaises(InvalidNumber, nth_value, chain, period)
            # every range would take long; the first and the last one are among these
            for low, high in ranges[:2] + ranges[::40] + ranges[-2:]:
                for value in (low, high):
                    rest, found_period = origins(chain, value)
                    self.assertEqual(found_period, period)
                    self.assertEqual(converted(rest, chain), value)
                    self.assertEqual(converted(rest - 3 * period, chain), value)
                self.assertIs(origins(chain, low - 1), None)
                self.assertIs(origins(chain, high + 1), None)

    def test_all_values_of_a_long_chain(self):
        chain = chain_of(FORMS[1])
        values = sorted([converted(number, chain) for number in range(256)])
        for number in range(0, 256, 15):
            self.assertEqual(nth_value(chain, number), values[number])

    def test_many_casts_that_undo_each_other(self):
        chain = [("u", 100)]
        for place in range(300):
            chain.append(("add", 3 ** (place % 60) * 5))
            chain.append(("s" if place % 2 else "u", 120 + 37 * place % 800))
        self.assertEqual(form(chain_of(form(chain))), form(chain))
        for low, high in value_intervals(chain):
            self.assertEqual(converted(origins(chain, low)[0], chain), low)
            self.assertEqual(converted(origins(chain, high)[0], chain), high)

    def test_outputs_and_inputs(self):
        for wanted in FORMS:
            chain = chain_of(wanted)
            period = 2 ** wanted[1][0]
            every = value_intervals(chain)
            self.assertEqual(outputs(chain, -BIG, period - 1 - BIG), every)
            missing = converted(period - 1 - BIG, chain)
            found = outputs(chain, -BIG, period - 2 - BIG)
            self.assertEqual(sum([high - low + 1 for low, high in found]), period - 1)
            self.assertFalse(any([low <= missing <= high for low, high in found]))
            low, high = every[len(every) // 2]
            self.assertEqual(count_inputs(chain, -BIG, period - 1 - BIG, low, high), high - low + 1)
            self.assertEqual(count_inputs(chain, -BIG, period - 1 - BIG, -4 ** 999, high),
                             sum([stop - start + 1 for start, stop in every if start <= low]))
            self.assertEqual(count_inputs(chain, 0, period * 10 ** 300 - 1, low, low), 10 ** 300)
            self.assertEqual(unchanged([("add", -wanted[0]), *chain]), every)
            self.assertEqual(unchanged([("add", 1 - wanted[0]), *chain]), [])

    def test_shortest_of_long_chains(self):
        for wanted in FORMS:
            chain = chain_of(wanted)
            found = shortest(chain)
            self.assertEqual(form(found), wanted)
            self.assertEqual(fewest_casts(chain), len(wanted[1]))
            self.assertEqual(fewest_steps(chain), len(found))
            self.assertLessEqual(len(found), len([step for step in chain if step[1] != 0]))
            # only the sum of the constants is left, even or odd
            self.assertEqual(fewest_steps([*found, ("u", 999), ("add", 1), ("u", 1)]), 1 + (wanted[0] + 1) % 2)

    def test_a_long_chain_with_an_addition_for_every_second_cast(self):
        # Without an addition, a wider cast parts the values only if it is a u behind an s. So of two places
        # between casts that follow each other one at least has an addition, and this chain has no more.
        chain = [("s", 8), ("u", 9)]
        for width in range(10, 400, 2):
            value = nth_value(chain, 1 + width * 7 % 255)
            chain.extend([("add", 2 ** (width - 1) - value), ("s", width), ("u", width + 1)])
        self.assertEqual(fewest_casts(chain), len([step for step in chain if step[0] != "add"]))
        for same in (chain, chain_of(form(chain)), [("add", -2 ** 999), *chain, ("u", 999), ("add", 0)]):
            self.assertTrue(same_function(shortest(same), chain))
            self.assertEqual(fewest_steps(same), len(chain))

    def test_where_long_chains_part(self):
        for wanted in FORMS:
            chain = chain_of(wanted)
            period = 2 ** wanted[1][0]
            self.assertIs(parting_number(chain, shortest(chain)), None)
            self.assertEqual(parting_number(chain, [*chain, ("add", 1)]), 0)
            # the greatest value alone is cast to another one
            constant = 2 ** 1200 - 1 - value_intervals(chain)[-1][1]
            last = origins(chain, value_intervals(chain)[-1][1])[0]
            part = [*chain, ("add", constant + 1), ("u", 1200), ("add", -constant - 1)]
            self.assertEqual(parting_number(chain, part), last)
            self.assertIs(parting_number(chain, [*chain, ("add", constant), ("u", 1200), ("add", -constant)]), None)
            # a cast of the numbers from 0 to 2 periods less 1 before it changes nothing
            self.assertIs(parting_number(chain, [("u", wanted[1][0] + 1), *chain]), None)
            self.assertEqual(parting_number([("add", wanted[0])], [("u", wanted[1][0]), ("add", wanted[0])]), period)
            self.assertIs(commute(chain, chain), True)
            self.assertIs(commute(chain, shortest(chain)), True)
            self.assertIs(commute(chain, [("add", 1)]), False)
            self.assertIs(commute([("add", 1)], chain), False)

    def test_long_chains_again_and_again(self):
        for wanted in FORMS:
            chain = chain_of(wanted)
            period = 2 ** wanted[1][0]
            twice = converted(converted(-5, chain), chain)
            self.assertEqual(repeated(-5, chain, 2), twice)
            self.assertEqual(repeated(-5, chain, period + 2), twice)
            self.assertEqual(repeated(-5, chain, period * 10 ** 300 + 2), twice)
            back = undoing(chain, 7 - period, 6)
            for number in (7 - period, 8 - period, -period // 2, -1, 0, 6):
                if 7 - period <= number:
                    self.assertEqual(converted(converted(number, chain), back), number)
            self.assertIs(undoing(chain, 7 - period, 7), None)

    def test_steps_of_wide_casts(self):
        self.assertEqual(converted(-1, [("u", 999)]), 2 ** 999 - 1)
        self.assertEqual(converted(2 ** 998, [("s", 999)]), -2 ** 998)
        self.assertIs(fits(2 ** 998, "s", 999), False)
        self.assertIs(fits(2 ** 998, "u", 999), True)
        chain = [("add", 2 ** 500)] * 700
        self.assertEqual(list(stages(0, chain))[-1], 700 * 2 ** 500)


if __name__ == "__main__":
    unittest.main()
