"""Names of arguments, arguments that stay as they were, returned lists that are new."""

import unittest

from castchains.forms import chain_of, form, same_function
from castchains.steps import converted, fits, stages
from castchains.values import nth_value, origins, value_intervals

CHAIN = [("s", 8), ("add", 5), ("u", 16)]
FORM = (5, (8, 16), (123,), 0)


class ArgumentsTest(unittest.TestCase):
    def test_by_name(self):
        self.assertEqual(converted(chain=CHAIN, number=200), 65485)
        self.assertEqual(list(stages(chain=CHAIN, number=200)), [200, -56, -51, 65485])
        self.assertIs(fits(width=8, word="u", number=255), True)
        self.assertEqual(form(chain=CHAIN), FORM)
        self.assertIs(same_function(second=[("u", 8)], first=CHAIN), False)
        self.assertEqual(form(chain_of(wanted=FORM)), FORM)
        self.assertEqual(value_intervals(chain=CHAIN), [(0, 132), (65413, 65535)])
        self.assertEqual(nth_value(number=133, chain=CHAIN), 65413)
        self.assertEqual(origins(value=65413, chain=CHAIN), (128, 256))

    def test_arguments_stay_as_they_were(self):
        calls = [
            lambda chain: converted(200, chain),
            lambda chain: list(stages(200, chain)),
            form,
            lambda chain: same_function(chain, chain),
            value_intervals,
            lambda chain: nth_value(chain, 3),
            lambda chain: origins(chain, 3),
        ]
        for call in calls:
            chain = list(CHAIN)
            call(chain)
            self.assertEqual(chain, CHAIN)

    def test_nothing_is_kept_from_call_to_call(self):
        chain = list(CHAIN)
        before = (converted(200, chain), form(chain), value_intervals(chain), nth_value(chain, 255), origins(chain, 3))
        chain[0] = ("u", 4)
        self.assertEqual(converted(200, chain), 13)
        self.assertEqual(form(chain), (5, (4,), (), 5))
        self.assertEqual(value_intervals(chain), [(5, 20)])
        self.assertEqual(nth_value(chain, 15), 20)
        self.assertIs(origins(chain, 3), None)
        chain[0] = CHAIN[0]
        self.assertEqual((converted(200, chain), form(chain), value_intervals(chain), nth_value(chain, 255),
                          origins(chain, 3)), before)

    def test_returned_lists_are_new(self):
        for call, argument in [(value_intervals, CHAIN), (value_intervals, [("u", 8)]),
                               (chain_of, FORM), (chain_of, (3, (), (), None)), (chain_of, (0, (1,), (), 0))]:
            first = call(argument)
            wanted = list(first)
            first.clear()
            self.assertEqual(call(argument), wanted)
            self.assertIsNot(call(argument), call(argument))


if __name__ == "__main__":
    unittest.main()
