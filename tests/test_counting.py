import unittest
from itertools import product

from castchains.counting import count_functions, form_number, nth_form
from castchains.errors import InvalidForm, InvalidNumber
from castchains.forms import chain_of, form

from plain import run_form, small_forms
from test_forms import NOT_FORMS

BIG = 10 ** 30

NOT_WIDTHS = [(), (0,), (-1,), (-BIG,), (0, 1), (-3, 8), (1, 1), (8, 8), (8, 4), (1, 2, 2), (1, 3, 2),
              (4, 8, 16, 15), (8, 0), (8, -1), (2, 3, 0)]

WIDTHS = [(1,), (2,), (5,), (1, 2), (1, 9), (2, 3), (2, 64), (3, 4), (1, 2, 3), (1, 5, 64), (2, 3, 4), (2, 4, 9),
          (3, 5, 8), (1, 2, 3, 4), (2, 3, 4, 5), (1, 2, 3, 4, 5, 6)]

LARGE = [
    (64,),
    (63, 64),
    (1, 64),
    tuple(range(1, 65)),
    tuple(range(32, 65)),
    (8, 16, 24, 32, 40, 48, 56, 64),
    tuple(range(100, 400)),
]


def forms_in_order(widths, least):
    """All forms with these widths and this least value, in ascending order of shift and cuts."""
    size = 2 ** widths[0]
    return [(shift, widths, cuts, least) for shift in range(size)
            for cuts in product(range(1, size), repeat=len(widths) - 1)]


class CountFunctionsTest(unittest.TestCase):
    def test_small_widths(self):
        for widths in WIDTHS:
            wanted = len(forms_in_order(widths, 0))
            with self.subTest(widths=widths):
                self.assertEqual(count_functions(widths), wanted)
                self.assertEqual(count_functions(list(widths)), wanted)
                self.assertIs(type(count_functions(widths)), int)

    def test_as_many_functions_as_it_says(self):
        functions = {}
        for wanted in small_forms():
            if wanted[3] == 4:
                made = tuple([run_form(number, wanted) for number in range(16)])
                functions.setdefault(wanted[1], set()).add(made)
        for widths, made in functions.items():
            self.assertEqual(count_functions(widths), len(made), widths)

    def test_ends(self):
        self.assertEqual(count_functions((1,)), 2)
        self.assertEqual(count_functions((1, 2, 3, 4, 5)), 2)
        self.assertEqual(count_functions((64,)), 2 ** 64)
        self.assertEqual(count_functions([8, 16]), 256 * 255)
        self.assertEqual(count_functions([63, 64]), 2 ** 63 * (2 ** 63 - 1))
        self.assertEqual(count_functions(range(32, 65)), 2 ** 32 * (2 ** 32 - 1) ** 32)

    def test_no_widths(self):
        for widths in NOT_WIDTHS:
            for given in (widths, list(widths)):
                with self.subTest(widths=given):
                    with self.assertRaises(InvalidForm) as context:
                        count_functions(given)
                    self.assertIs(context.exception.value, None)


class NthFormTest(unittest.TestCase):
    def test_small_widths_in_order(self):
        for widths in WIDTHS:
            for least in (0, -BIG, 7):
                wanted = forms_in_order(widths, least)
                with self.subTest(widths=widths, least=least):
                    self.assertEqual([nth_form(widths, least, number) for number in range(len(wanted))], wanted)
                    self.assertEqual(nth_form(list(widths), least, len(wanted) - 1), wanted[-1])

    def test_kinds_of_values(self):
        for widths in ((2, 3, 9), [2, 3, 9], (3,), [3]):
            found = nth_form(widths, 5, 6)
            self.assertIs(type(found), tuple)
            self.assertEqual([type(part) for part in found], [int, tuple, tuple, int])
            self.assertEqual(found[1], tuple(widths))

    def test_there_and_back(self):
        for widths in LARGE:
            count = count_functions(widths)
            for number in (0, 1, count // 3, count // 2, count - 2, count - 1):
                for least in (-BIG, 0, BIG):
                    found = nth_form(widths, least, number)
                    self.assertEqual(found[3], least)
                    self.assertEqual(form_number(found), number)
                    self.assertEqual(form(chain_of(found)), found)

    def test_ends(self):
        for widths in LARGE:
            size = 2 ** widths[0]
            further = len(widths) - 1
            count = count_functions(widths)
            self.assertEqual(nth_form(widths, 3, 0), (0, widths, (1,) * further, 3))
            self.assertEqual(nth_form(widths, 3, count - 1), (size - 1, widths, (size - 1,) * further, 3))

    def test_no_such_form(self):
        for widths in WIDTHS + LARGE:
            count = count_functions(widths)
            for number in (-1, -2, -BIG, -count, count, count + 1, 10 * count, count + BIG):
                with self.subTest(widths=widths, number=number):
                    with self.assertRaises(InvalidNumber) as context:
                        nth_form(widths, 0, number)
                    self.assertEqual(context.exception.value, number)

    def test_no_form_with_widths_has_none_as_its_least_value(self):
        with self.assertRaises(InvalidNumber) as context:
            nth_form((2, 3), None, 1)
        self.assertEqual(context.exception.value, 1)

    def test_widths_are_checked_before_the_number(self):
        for widths in NOT_WIDTHS:
            for number in (-1, 0, BIG):
                for given in (widths, list(widths)):
                    with self.subTest(widths=given, number=number):
                        with self.assertRaises(InvalidForm) as context:
                            nth_form(given, 0, number)
                        self.assertIs(context.exception.value, None)


class FormNumberTest(unittest.TestCase):
    def test_small_widths_in_order(self):
        for widths in WIDTHS:
            for least in (0, -BIG, 7):
                forms = forms_in_order(widths, least)
                with self.subTest(widths=widths, least=least):
                    self.assertEqual([form_number(wanted) for wanted in forms], list(range(len(forms))))

    def test_forms_of_chains(self):
        self.assertEqual(form_number(form([("u", 8)])), 0)
        self.assertEqual(form_number(form([("s", 8)])), 0)
        self.assertEqual(form_number(form([("add", -1), ("u", 8)])), 255)
        self.assertEqual(form_number(form([("s", 8), ("u", 16)])), 127)
        self.assertEqual(form_number(form([("u", 8), ("add", 32700), ("s", 16)])), 188 * 255 + 67)

    def test_no_form_with_widths(self):
        for wanted in NOT_FORMS + [(0, (), (), None), (7, (), (), None), (-BIG, (), (), None)]:
            with self.subTest(wanted=wanted):
                with self.assertRaises(InvalidForm) as context:
                    form_number(wanted)
                self.assertIs(context.exception.value, None)


if __name__ == "__main__":
    unittest.main()
