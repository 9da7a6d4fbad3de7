"""The examples of the interface, as they are written."""

import unittest


class ExamplesTest(unittest.TestCase):
    def test_steps(self):
        from castchains.steps import converted, fits, stages
        self.assertEqual(
            [converted(200, [('s', 8), ('u', 16)]), list(stages(300, [('u', 8), ('add', -50), ('s', 4)])), fits(-128, 's', 8)],
            [65480, [300, 44, -6, -6], True])

    def test_forms(self):
        from castchains.forms import form, same_function
        self.assertEqual(
            [form([('s', 8), ('u', 16)]), form([('u', 8), ('add', 32700), ('s', 16)]), form([('add', 3), ('add', 4)])],
            [(0, (8, 16), (128,), 0), (188, (8, 16), (68,), -32768), (7, (), (), None)])
        self.assertEqual(
            [form([('u', 16), ('s', 8)]), same_function([('add', 128), ('u', 8), ('add', -128)], [('s', 8)])],
            [(0, (8,), (), -128), True])

    def test_values(self):
        from castchains.values import nth_value, origins, value_intervals
        chain = [('u', 8), ('add', 32700), ('s', 16)]
        self.assertEqual(
            [value_intervals(chain), nth_value(chain, 188), origins(chain, -32768), origins(chain, 0), origins([('add', 3)], 10)],
            [[(-32768, -32581), (32700, 32767)], 32700, (68, 256), None, (7, None)])

    def test_ranges(self):
        from castchains.ranges import count_inputs, outputs, unchanged
        self.assertEqual(
            [outputs([('s', 8)], 100, 130), count_inputs([('s', 8)], 0, 10 ** 30 - 1, -1, 0), unchanged([('s', 8), ('u', 16)])],
            [[(-128, -126), (100, 127)], 7812500000000000000000000000, [(0, 127), (65408, 65535)]])

    def test_shortest(self):
        from castchains.shortest import fewest_casts, fewest_steps, shortest
        self.assertEqual(
            [shortest([('add', 128), ('u', 8), ('add', -128)]), fewest_steps([('s', 8), ('u', 16), ('add', 65536)]), fewest_casts([('u', 8), ('s', 16)])],
            [[('s', 8)], 3, 1])

    def test_parting(self):
        from castchains.parting import commute, parting_number
        self.assertEqual(
            [parting_number([('u', 8)], [('s', 8)]), parting_number([('u', 8)], [('u', 9)]), commute([('u', 8)], [('s', 8)]), commute([('u', 4)], [('u', 9)])],
            [128, 256, False, True])

    def test_repeating(self):
        from castchains.repeating import repeated, undoing
        from castchains.steps import converted
        chain = [('add', 100), ('s', 8)]
        self.assertEqual(
            [repeated(5, chain, 10 ** 20), [converted(converted(x, chain), undoing(chain, 0, 255)) for x in [0, 9, 255]], undoing(chain, 0, 256)],
            [5, [0, 9, 255], None])

    def test_counting(self):
        from castchains.counting import count_functions, form_number, nth_form
        self.assertEqual(
            [count_functions((1, 3)), nth_form((2, 3), 5, 4), form_number((1, (2, 3), (2,), 5))],
            [2, (1, (2, 3), (2,), 5), 4])

    def test_registers(self):
        from castchains.registers import CheckedRegister, Register
        register = Register(300)
        register.convert(('u', 8), ('add', 4), ('s', 8))
        self.assertEqual(
            [register.number, register.changes, list(register.past()), Register.read('5: u8 +3').steps, CheckedRegister(7) == Register(7)],
            [48, 1, [300, 44, 48, 48], [('u', 8), ('add', 3)], False])

    def test_checked_registers(self):
        from castchains.errors import ChangedNumber
        from castchains.registers import CheckedRegister
        with self.assertRaises(ChangedNumber) as context:
            CheckedRegister(250).convert(('u', 8), ('add', 10), ('u', 8))
        self.assertEqual(context.exception.value, 2)

    def test_texts(self):
        from castchains.texts import show_chain
        self.assertEqual(show_chain([('u', 8), ('add', 5), ('s', 16), ('add', -3)]), 'u8 +5 s16 -3')

    def test_readings(self):
        from castchains.errors import Unreadable
        from castchains.readings import read_chain
        with self.assertRaises(Unreadable) as context:
            read_chain('u0')
        self.assertEqual(context.exception.value, 'u0')


if __name__ == "__main__":
    unittest.main()
