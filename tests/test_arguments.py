"""Names of arguments, arguments that stay as they were, returned lists that are new."""

import unittest

from castchains.counting import count_functions, form_number, nth_form
from castchains.forms import chain_of, form, same_function
from castchains.parting import commute, parting_number
from castchains.ranges import count_inputs, outputs, unchanged
from castchains.readings import read_chain
from castchains.registers import CheckedRegister, Register
from castchains.repeating import repeated, undoing
from castchains.shortest import fewest_casts, fewest_steps, shortest
from castchains.steps import converted, fits, stages
from castchains.texts import show_chain
from castchains.values import nth_value, origins, value_intervals

CHAIN = [("s", 8), ("add", 5), ("u", 16)]
FORM = (5, (8, 16), (123,), 0)


class ArgumentsTest(unittest.TestCase):
    def test_by_name(self):
        self.assertEqual(converted(chain=CHAIN, number=200), 65485)
        self.assertEqual(list(stages(chain=CHAIN, number=200)), [200, -56, -51, 65485])
        self.assertIs(fits(width=8, word="u", number=255), True)
        self.assertEqual(form(chain=CHAIN), FORM)
        self.assertIs(same_function(second=[("u", 8)], first=CHAIN), False)
        self.assertEqual(form(chain_of(wanted=FORM)), FORM)
        self.assertEqual(value_intervals(chain=CHAIN), [(0, 132), (65413, 65535)])
        self.assertEqual(nth_value(number=133, chain=CHAIN), 65413)
        self.assertEqual(origins(value=65413, chain=CHAIN), (128, 256))
        self.assertEqual(outputs(last=130, first=120, chain=CHAIN), [(125, 132), (65413, 65415)])
        self.assertEqual(count_inputs(high=126, low=125, last=511, first=0, chain=CHAIN), 4)
        self.assertEqual(unchanged(chain=CHAIN), [])
        self.assertEqual(fewest_casts(chain=CHAIN), 2)
        self.assertEqual(fewest_steps(chain=CHAIN), 3)
        self.assertEqual(shortest(chain=[("u", 9), ("s", 8)]), [("s", 8)])
        self.assertEqual(parting_number(second=[("u", 9)], first=[("u", 8)]), 256)
        self.assertIs(commute(second=CHAIN, first=[("s", 8)]), False)
        self.assertEqual(repeated(times=2, number=250, chain=CHAIN), 4)
        self.assertEqual(undoing(last=256, first=1, chain=[("add", 4)]), [("add", -4)])
        self.assertIs(undoing(last=256, first=0, chain=CHAIN), None)
        self.assertEqual(count_functions(widths=(2, 3)), 12)
        self.assertEqual(nth_form(number=4, least=5, widths=(2, 3)), (1, (2, 3), (2,), 5))
        self.assertEqual(form_number(wanted=(1, (2, 3), (2,), 5)), 4)
        self.assertEqual(show_chain(chain=CHAIN), "s8 +5 u16")
        self.assertEqual(read_chain(text="s8 +5 u16"), CHAIN)
        self.assertEqual(Register(number=200), Register.read(text="200: none"))
        self.assertEqual(CheckedRegister(number=200), CheckedRegister.read(text="200: none"))

    def test_arguments_stay_as_they_were(self):
        calls = [
            lambda chain: converted(200, chain),
            lambda chain: list(stages(200, chain)),
            form,
            lambda chain: same_function(chain, chain),
            value_intervals,
            lambda chain: nth_value(chain, 3),
            lambda chain: origins(chain, 3),
            lambda chain: outputs(chain, 0, 9),
            lambda chain: outputs(chain, 0, 999),
            lambda chain: count_inputs(chain, 0, 9, 0, 3),
            unchanged,
            fewest_casts,
            fewest_steps,
            shortest,
            lambda chain: parting_number(chain, chain),
            lambda chain: commute(chain, chain),
            lambda chain: repeated(200, chain, 3),
            lambda chain: undoing(chain, 0, 9),
            show_chain,
            lambda chain: Register(200).convert(*chain),
            lambda chain: CheckedRegister(20).convert(*chain),
        ]
        for call in calls:
            chain = list(CHAIN)
            call(chain)
            self.assertEqual(chain, CHAIN)

    def test_second_arguments_stay_as_they_were(self):
        for call in (same_function, parting_number, commute):
            first, second = [("u", 9)], list(CHAIN)
            call(first, second)
            self.assertEqual((first, second), ([("u", 9)], CHAIN))

    def test_widths_stay_as_they_were(self):
        for call in (count_functions, lambda widths: nth_form(widths, 5, 4)):
            widths = [2, 3]
            call(widths)
            self.assertEqual(widths, [2, 3])
        widths = [2, 3]
        found = nth_form(widths, 5, 4)
        widths.append(4)
        self.assertEqual(found, (1, (2, 3), (2,), 5))

    def test_registers_keep_no_chain(self):
        for made_by in (Register, CheckedRegister):
            made, chain = made_by(20), list(CHAIN)
            made.convert(*chain)
            chain.clear()
            self.assertEqual(made.steps, CHAIN)

    def test_nothing_is_kept_from_call_to_call(self):
        chain = list(CHAIN)
        before = (converted(200, chain), form(chain), value_intervals(chain), nth_value(chain, 255), origins(chain, 3))
        chain[0] = ("u", 4)
        self.assertEqual(converted(200, chain), 13)
        self.assertEqual(form(chain), (5, (4,), (), 5))
        self.assertEqual(value_intervals(chain), [(5, 20)])
        self.assertEqual(nth_value(chain, 15), 20)
        self.assertIs(origins(chain, 3), None)
        chain[0] = CHAIN[0]
        self.assertEqual((converted(200, chain), form(chain), value_intervals(chain), nth_value(chain, 255),
                          origins(chain, 3)), before)

    def test_returned_lists_are_new(self):
        for call, argument in [(value_intervals, CHAIN), (value_intervals, [("u", 8)]),
                               (read_chain, "none"), (read_chain, "u8 +5"),
                               (chain_of, FORM), (chain_of, (3, (), (), None)), (chain_of, (0, (1,), (), 0))]:
            first = call(argument)
            wanted = list(first)
            first.clear()
            self.assertEqual(call(argument), wanted)
            self.assertIsNot(call(argument), call(argument))

    def test_returned_lists_are_not_those_that_were_passed(self):
        for chain in ([], [("add", 5)], [("u", 8)], [("s", 8), ("u", 16)], [("add", 1), ("s", 3), ("add", 1)]):
            for call in (shortest, unchanged,
                         lambda chain: outputs(chain, 0, 3), lambda chain: outputs(chain, 0, 10 ** 9),
                         lambda chain: undoing(chain, 0, 3)):
                before = list(chain)
                first = call(chain)
                if first is None:
                    continue
                wanted = list(first)
                first.append(("add", 1))
                self.assertEqual(chain, before)
                self.assertEqual(call(chain), wanted)
                self.assertIsNot(call(chain), call(chain))


if __name__ == "__main__":
    unittest.main()
