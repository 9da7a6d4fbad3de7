import unittest

from castchains.errors import InvalidForm, InvalidStep
from castchains.forms import chain_of, form, same_function

from plain import casts_of, run, run_form, small_chains, small_forms, table
from test_steps import INVALID

BIG = 10 ** 30

NOT_FORMS = [
    # widths that do not ascend, or are less than 1
    (0, (8, 8), (5,), 0),
    (0, (8, 4), (5,), 0),
    (0, (4, 8, 8), (5, 5), 0),
    (0, (4, 8, 6), (5, 5), 0),
    (0, (0,), (), 0),
    (0, (-1,), (), 0),
    (0, (0, 8), (1,), 0),
    (0, (-3, 8), (1,), 0),
    (0, (8, 0), (1,), 0),
    # another number of cuts
    (0, (8,), (1,), 0),
    (0, (8, 9), (), 0),
    (0, (8, 9), (1, 2), 0),
    (0, (8, 9, 10), (1,), 0),
    # cuts that leave or take everything
    (0, (2, 3), (0,), 0),
    (0, (2, 3), (4,), 0),
    (0, (2, 3), (-1,), 0),
    (0, (2, 3), (5,), 0),
    (0, (2, 3, 4), (1, 4), 0),
    (0, (2, 3, 4), (0, 1), 0),
    (0, (2, 3, 4), (1, 0), 0),
    (0, (1, 64), (2,), 0),
    (0, (64, 65), (2 ** 64,), 0),
    (0, (64, 65), (-BIG,), 0),
    # shifts outside of 0 to M - 1
    (-1, (2,), (), 0),
    (4, (2,), (), 0),
    (-4, (2, 3), (1,), 0),
    (BIG, (64,), (), 0),
    (2 ** 64, (64,), (), 0),
    # no least value where there is one, and the other way round
    (0, (2,), (), None),
    (0, (2, 3), (1,), None),
    (0, (), (), 0),
    (5, (), (), 5),
    (0, (), (1,), None),
    (0, (), (1,), 0),
]


class FormTest(unittest.TestCase):
    def test_without_casts(self):
        self.assertEqual(form([]), (0, (), (), None))
        self.assertEqual(form([("add", 0)]), (0, (), (), None))
        self.assertEqual(form([("add", -5)]), (-5, (), (), None))
        self.assertEqual(form([("add", BIG), ("add", BIG), ("add", -1)]), (2 * BIG - 1, (), (), None))

    def test_one_cast(self):
        for width in (1, 2, 8, 63, 64):
            half = 2 ** (width - 1)
            with self.subTest(width=width):
                self.assertEqual(form([("u", width)]), (0, (width,), (), 0))
                self.assertEqual(form([("s", width)]), (0, (width,), (), -half))
                self.assertEqual(form([("add", -1), ("u", width)]), (2 * half - 1, (width,), (), 0))
                self.assertEqual(form([("s", width), ("add", -1)]), (2 * half - 1, (width,), (), -half - 1))
                self.assertEqual(form([("add", 2 * half), ("u", width), ("add", BIG)]),
                                 (BIG % (2 * half), (width,), (), BIG))

    def test_narrowing_casts(self):
        self.assertEqual(form([("u", 64), ("s", 16), ("u", 8)]), (0, (8,), (), 0))
        self.assertEqual(form([("u", 64), ("add", 3), ("s", 8)]), (3, (8,), (), -128))
        self.assertEqual(form([("s", 8), ("u", 16), ("s", 8)]), (0, (8,), (), -128))
        self.assertEqual(form([("s", 8), ("u", 16), ("u", 1)]), (0, (1,), (), 0))

    def test_widening_casts(self):
        self.assertEqual(form([("u", 8), ("s", 16), ("u", 32)]), (0, (8,), (), 0))
        self.assertEqual(form([("s", 8), ("u", 16), ("u", 32)]), (0, (8, 16), (128,), 0))
        self.assertEqual(form([("s", 8), ("u", 16), ("s", 32)]), (0, (8, 16), (128,), 0))
        self.assertEqual(form([("s", 8), ("u", 64)]), (0, (8, 64), (128,), 0))
        self.assertEqual(form([("s", 63), ("u", 64)]), (0, (63, 64), (2 ** 62,), 0))
        self.assertEqual(form([("s", 2), ("u", 4), ("add", -3), ("s", 8), ("u", 16)]),
                         (1, (2, 4, 16), (2, 2), 11))

    def test_casts_that_undo_a_cut(self):
        self.assertEqual(form([("s", 8), ("u", 16), ("s", 16)]), (0, (8,), (), -128))
        self.assertEqual(form([("s", 8), ("u", 16), ("s", 12)]), (0, (8,), (), -128))
        self.assertEqual(form([("s", 8), ("u", 16), ("u", 12)]), (0, (8, 12), (128,), 0))
        self.assertEqual(form([("s", 8), ("u", 16), ("add", 1), ("u", 12)]), (1, (8, 12), (127,), 0))

    def test_needless_steps(self):
        chain = [("add", 5), ("u", 8), ("add", 32700), ("s", 16), ("add", -7)]
        longer = [("add", 2), ("u", 30), ("add", 3), ("s", 9), ("u", 8), ("u", 8), ("s", 10),
                  ("add", 32000), ("u", 64), ("add", 700), ("u", 20), ("s", 16), ("s", 16),
                  ("s", 64), ("add", 0), ("add", -7)]
        self.assertEqual(form(longer), form(chain))

    def test_form_means_the_function_of_the_chain(self):
        for chain in small_chains():
            found = form(chain)
            shift, widths, cuts, least = found
            casts = casts_of(chain)
            if casts:
                size = 2 ** min([width for _, width in casts])
                self.assertEqual(size, 2 ** widths[0], chain)
                self.assertEqual(shift, sum([c for word, c in chain if word == "add"]) % size, chain)
                self.assertEqual(list(widths), sorted(set(widths)), chain)
                self.assertEqual(len(cuts), len(widths) - 1, chain)
                self.assertTrue(all([1 <= cut < size for cut in cuts]), chain)
            for number in (-9, -4, -1, 0, 1, 2, 3, 4, 5, 6, 7, 14):
                self.assertEqual(run_form(number, found), run(number, chain), (number, chain))

    def test_kinds_of_values(self):
        for chain in ([("s", 1), ("u", 2)], [("add", 1)], [("u", 1)]):
            shift, widths, cuts, least = form(chain)
            self.assertIs(type(form(chain)), tuple)
            self.assertIs(type(widths), tuple)
            self.assertIs(type(cuts), tuple)
            for number in [shift, *widths, *cuts]:
                self.assertIs(type(number), int)
            self.assertIn(type(least), (int, type(None)))

    def test_no_chain_with_fewer_casts(self):
        for chain in small_chains():
            self.assertLessEqual(len(form(chain)[1]), len(casts_of(chain)), chain)

    def test_invalid_steps(self):
        for chain, index in INVALID:
            with self.subTest(chain=chain):
                with self.assertRaises(InvalidStep) as context:
                    form(chain)
                self.assertEqual(context.exception.value, index)


class SameFunctionTest(unittest.TestCase):
    def test_forms_are_equal_exactly_if_the_functions_are(self):
        tables = {}
        forms = {}
        for chain in small_chains():
            function = table(chain)
            found = form(chain)
            self.assertEqual(tables.setdefault(function, found), found, chain)
            self.assertEqual(forms.setdefault(found, function), function, chain)

    def test_chains_that_do_the_same(self):
        pairs = [
            ([], [("add", 0)]),
            ([("add", 5), ("add", -5)], []),
            ([("u", 8), ("s", 8)], [("s", 8)]),
            ([("u", 64), ("add", 2 ** 64), ("u", 64)], [("u", 64)]),
            ([("s", 8), ("add", 128)], [("add", 128), ("u", 8)]),
            ([("u", 8), ("add", 1), ("u", 16)], [("u", 8), ("add", 1)]),
        ]
        for first, second in pairs:
            with self.subTest(first=first, second=second):
                self.assertIs(same_function(first, second), True)
                self.assertIs(same_function(second, first), True)

    def test_chains_that_differ(self):
        pairs = [
            ([], [("add", 1)]),
            ([], [("u", 64)]),
            ([("u", 8)], [("s", 8)]),
            ([("u", 8)], [("u", 9)]),
            ([("u", 8), ("add", 256)], [("u", 8)]),
            ([("add", 1), ("u", 64)], [("u", 64)]),
            ([("s", 8), ("u", 16)], [("s", 8), ("u", 17)]),
            # the casts part the numbers one place further
            ([("u", 8), ("add", 32700), ("s", 16)], [("add", 1), ("u", 8), ("add", 32699), ("s", 16)]),
            # all numbers but one become the same
            ([("u", 64), ("add", -1), ("u", 65), ("add", 1)], [("u", 64)]),
        ]
        for first, second in pairs:
            with self.subTest(first=first, second=second):
                self.assertIs(same_function(first, second), False)
                self.assertIs(same_function(second, first), False)

    def test_the_error_of_the_first_chain_comes_first(self):
        for first, second, index in [
            ([("u", 8), ("add", 1), ("u", 0)], [("x", 1)], 2),
            ([("x", 1)], [("u", 8), ("s", -1)], 0),
            ([("u", 8)], [("u", 8), ("s", 0)], 1),
            ([("u", 8), ("s", 0)], [("u", 8)], 1),
            ([], [("s", 0)], 0),
        ]:
            with self.subTest(first=first, second=second):
                with self.assertRaises(InvalidStep) as context:
                    same_function(first, second)
                self.assertEqual(context.exception.value, index)


class ChainOfTest(unittest.TestCase):
    def test_without_widths(self):
        for shift in (-BIG, -1, 0, 1, BIG):
            wanted = (shift, (), (), None)
            chain = chain_of(wanted)
            self.assertEqual(form(chain), wanted)
            self.assertEqual(run(3, chain), 3 + shift)

    def test_every_small_form(self):
        functions = {}
        for wanted in small_forms():
            chain = chain_of(wanted)
            self.assertEqual(form(chain), wanted)
            self.assertEqual(len(casts_of(chain)), len(wanted[1]))
            function = tuple([run(number, chain) for number in range(16)])
            for number in (-17, -1, 0, 1, 6, 22):
                self.assertEqual(run(number, chain), run_form(number, wanted), (number, wanted))
            self.assertEqual(functions.setdefault(function, wanted), wanted)

    def test_back_from_the_form_of_a_chain(self):
        for chain in small_chains(3):
            self.assertTrue(same_function(chain_of(form(chain)), chain), chain)

    def test_ends_of_a_form(self):
        for wanted in [
            (0, (1,), (), 0),
            (1, (1, 2), (1,), -BIG),
            (3, (2, 3), (3,), BIG),
            (0, (2, 3, 4), (1, 3), -1),
            (2 ** 64 - 1, (64,), (), -2 ** 63),
            (2 ** 63 - 1, (63, 64), (2 ** 63 - 1,), 0),
            (0, (63, 64), (1,), BIG),
            (0, (1, 64), (1,), 0),
        ]:
            with self.subTest(wanted=wanted):
                self.assertEqual(form(chain_of(wanted)), wanted)

    def test_a_list_of_steps(self):
        for wanted in [(5, (), (), None), (0, (1,), (), 0), (1, (2, 3, 9), (3, 2), 7)]:
            chain = chain_of(wanted)
            self.assertIs(type(chain), list)
            for step in chain:
                self.assertIs(type(step), tuple)
                self.assertEqual([type(part) for part in step], [str, int])

    def test_no_forms(self):
        for wanted in NOT_FORMS:
            with self.subTest(wanted=wanted):
                with self.assertRaises(InvalidForm) as context:
                    chain_of(wanted)
                self.assertIs(context.exception.value, None)


if __name__ == "__main__":
    unittest.main()
