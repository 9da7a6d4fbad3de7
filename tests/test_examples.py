"""The examples of the interface, as they are written."""

import unittest


class ExamplesTest(unittest.TestCase):
    def test_steps(self):
        from castchains.steps import converted, fits, stages
        self.assertEqual(
            [converted(200, [('s', 8), ('u', 16)]), list(stages(300, [('u', 8), ('add', -50), ('s', 4)])), fits(-128, 's', 8)],
            [65480, [300, 44, -6, -6], True])

    def test_forms(self):
        from castchains.forms import form, same_function
        self.assertEqual(
            [form([('s', 8), ('u', 16)]), form([('u', 8), ('add', 32700), ('s', 16)]), form([('add', 3), ('add', 4)])],
            [(0, (8, 16), (128,), 0), (188, (8, 16), (68,), -32768), (7, (), (), None)])
        self.assertEqual(
            [form([('u', 16), ('s', 8)]), same_function([('add', 128), ('u', 8), ('add', -128)], [('s', 8)])],
            [(0, (8,), (), -128), True])

    def test_values(self):
        from castchains.values import nth_value, origins, value_intervals
        chain = [('u', 8), ('add', 32700), ('s', 16)]
        self.assertEqual(
            [value_intervals(chain), nth_value(chain, 188), origins(chain, -32768), origins(chain, 0), origins([('add', 3)], 10)],
            [[(-32768, -32581), (32700, 32767)], 32700, (68, 256), None, (7, None)])


if __name__ == "__main__":
    unittest.main()
