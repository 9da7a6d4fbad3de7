import unittest

from castchains.errors import InvalidStep
from castchains.forms import chain_of, form, same_function
from castchains.parting import commute, parting_number
from castchains.steps import converted

from plain import run, small_chains
from test_ranges import WIDE, WIDER
from test_steps import INVALID

BIG = 10 ** 30

# (first chain, second chain, least number on which they differ)
PAIRS = [
    ([], [], None),
    ([], [("add", 0)], None),
    ([], [("add", 1)], 0),
    ([("add", BIG)], [("add", BIG - 1), ("add", 1)], None),
    ([("add", BIG)], [("add", BIG - 1)], 0),
    ([], [("u", 64)], 2 ** 64),
    ([], [("s", 64)], 2 ** 63),
    ([], [("s", 1)], 1),
    ([("add", 5)], [("add", 5), ("u", 64)], 2 ** 64 - 5),
    ([("add", 5)], [("u", 64), ("add", 5)], 2 ** 64),
    ([("add", -5)], [("u", 64), ("add", 5)], 0),
    ([("u", 64)], [("s", 64)], 2 ** 63),
    ([("u", 64)], [("u", 63)], 2 ** 63),
    ([("u", 64)], [("u", 1)], 2),
    ([("s", 64)], [("s", 63)], 2 ** 62),
    ([("add", 1), ("u", 64)], [("u", 64), ("add", 1)], 2 ** 64 - 1),
    ([("add", 1), ("u", 64)], [("add", 1), ("u", 63)], 2 ** 63 - 1),
    ([("s", 8), ("u", 16)], [("s", 8), ("u", 17)], 128),
    ([("s", 8), ("u", 16)], [("s", 8), ("u", 16), ("s", 16)], 128),
    ([("u", 8), ("add", 32700), ("s", 16)], [("u", 8), ("add", 32700)], 68),
    # a period that is longer than the common beginning of one period
    ([("u", 8)], [("u", 8), ("add", 32767 - 254), ("s", 16), ("add", 254 - 32767)], 255),
    # the constants differ by a multiple of the period
    ([("u", 64)], [("add", 2 ** 64), ("u", 64)], None),
    ([("u", 64)], [("u", 64), ("add", 2 ** 64)], 0),
    # another way to write it
    ([("add", 128), ("u", 8), ("add", -128)], [("s", 8)], None),
    ([("s", 8), ("u", 16), ("s", 64)], [("u", 64), ("s", 8), ("u", 16)], None),
]


class PartingNumberTest(unittest.TestCase):
    def test_known_numbers(self):
        for first, second, wanted in PAIRS:
            with self.subTest(first=first, second=second):
                self.assertEqual(parting_number(first, second), wanted)
                self.assertEqual(parting_number(second, first), wanted)

    def test_small_chains(self):
        # periods are at most 8: two functions that differ do so up to 8
        chains = {}
        for chain in small_chains(3):
            chains.setdefault(tuple([run(number, chain) for number in range(9)]), chain)
        rows = list(chains.items())[::5]
        for results, first in rows:
            for others, second in rows:
                differing = [number for number in range(9) if results[number] != others[number]]
                wanted = differing[0] if differing else None
                self.assertEqual(parting_number(first, second), wanted, (first, second))

    def test_none_exactly_for_the_same_function(self):
        for chain in small_chains(3):
            for other in (chain_of(form(chain)), [("add", 2), *chain, ("add", -2)], [*chain, ("s", 3)]):
                found = parting_number(chain, other)
                self.assertEqual(found is None, same_function(chain, other), (chain, other))

    def test_least_of_all(self):
        for first in WIDER:
            for step in (("u", 4), ("s", 5), ("u", 6), ("s", 7), ("u", 8), ("s", 9), ("u", 10)):
                for place in range(len(first) + 1):
                    second = [*first[:place], step, *first[place:]]
                    differing = [n for n in range(130) if converted(n, first) != converted(n, second)]
                    wanted = differing[0] if differing else None
                    self.assertEqual(parting_number(first, second), wanted, (first, second))

    def test_one_step_far_behind(self):
        start = [("s", 40), ("add", 3), ("u", 45), ("add", -9), ("s", 50), ("add", 2 ** 49), ("u", 55),
                 ("add", 2 ** 54), ("s", 60), ("add", 7)]
        self.assertIs(parting_number([*start, ("u", 64)], [*start, ("s", 64)]), None)
        self.assertEqual(parting_number([*start, ("add", 1)], start), 0)
        # half of the values, those of the numbers from 2 ** 39 on, lie behind 2 ** 63
        start.append(("add", 2 ** 63 - 2 ** 54 - 2 ** 49 - 2 ** 44 - 7))
        self.assertEqual(parting_number([*start, ("u", 64)], [*start, ("s", 64)]), 2 ** 39)
        self.assertEqual(parting_number([*start, ("u", 63)], [*start, ("u", 64)]), 2 ** 39)
        # only the greatest value is cut off
        self.assertEqual(parting_number([("u", 40), ("add", 2 ** 63 - 2 ** 40 + 1), ("s", 64)],
                                        [("u", 40), ("add", 2 ** 63 - 2 ** 40 + 1)]), 2 ** 40 - 1)

    def test_wide_casts_differ_there_and_not_before(self):
        for first in WIDE:
            for second in WIDE:
                found = parting_number(first, second)
                if found is None:
                    self.assertTrue(same_function(first, second))
                    continue
                self.assertGreaterEqual(found, 0)
                self.assertNotEqual(converted(found, first), converted(found, second))
                for before in (found - 1, found - 2, found // 2, found // 3, 1, 0):
                    if 0 <= before < found:
                        self.assertEqual(converted(before, first), converted(before, second))

    def test_the_error_of_the_first_chain_comes_first(self):
        for call in (parting_number, commute):
            for chain, index in INVALID:
                for first, second in ((chain, []), ([("u", 8)], chain), (chain, [("x", 1)]), (chain, chain)):
                    with self.subTest(call=call, first=first, second=second):
                        with self.assertRaises(InvalidStep) as context:
                            call(first, second)
                        self.assertEqual(context.exception.value, index)
            with self.assertRaises(InvalidStep) as context:
                call([("u", 8), ("add", 1), ("u", 0)], [("x", 1)])
            self.assertEqual(context.exception.value, 2)
            with self.assertRaises(InvalidStep) as context:
                call([("u", 8), ("add", 1)], [("s", 2), ("x", 1)])
            self.assertEqual(context.exception.value, 1)


class CommuteTest(unittest.TestCase):
    def test_small_chains(self):
        chains = small_chains(2)
        for first in chains:
            for second in chains:
                wanted = all([run(run(number, first), second) == run(run(number, second), first)
                              for number in range(-1, 9)])
                self.assertIs(commute(first, second), wanted, (first, second))

    def test_chains_that_do(self):
        for first, second in [
            ([], [("s", 64)]),
            ([("add", 3)], [("add", -BIG)]),
            ([("u", 8)], [("u", 64)]),
            ([("s", 8)], [("s", 64)]),
            ([("add", 5), ("u", 8)], [("add", 9), ("u", 8)]),
            ([("s", 8), ("u", 16)], [("s", 8), ("u", 16)]),
            ([("u", 8), ("add", 256)], [("u", 8), ("add", 256), ("u", 64)]),
            ([("u", 8), ("add", 1)], [("u", 9)]),
        ]:
            self.assertIs(commute(first, second), True, (first, second))
            self.assertIs(commute(second, first), True, (first, second))

    def test_chains_that_do_not(self):
        for first, second in [
            ([("u", 64)], [("add", 1)]),
            ([("u", 64)], [("add", 2 ** 64)]),
            ([("u", 64)], [("s", 64)]),
            ([("s", 8)], [("u", 64)]),
            ([("add", 1)], [("s", 8), ("u", 16)]),
            ([("u", 8), ("add", 1)], [("u", 4)]),
        ]:
            self.assertIs(commute(first, second), False, (first, second))
            self.assertIs(commute(second, first), False, (first, second))


if __name__ == "__main__":
    unittest.main()
