import random
import unittest

from castchains.errors import ChangedNumber, InvalidStep, NothingToUndo, Unreadable
from castchains.registers import CheckedRegister, Register
from castchains.texts import show_chain

from plain import small_chains
from test_steps import INVALID
from test_texts import NO_CHAINS, TEXTS

BIG = 10 ** 30
CLASSES = (Register, CheckedRegister)

# (number at the start, steps, index of the first cast that would change the number)
CHANGING = [
    (250, [("u", 8), ("add", 10), ("u", 8)], 2),
    (256, [("u", 8)], 0),
    (-1, [("u", 64)], 0),
    (128, [("s", 8)], 0),
    (-129, [("s", 8)], 0),
    (127, [("s", 8), ("add", 1), ("s", 8), ("add", 1), ("u", 1)], 2),
    (0, [("add", BIG), ("add", -1), ("s", 64), ("u", 8)], 2),
    (1, [("u", 1), ("s", 2), ("s", 1), ("u", 2)], 2),
]

# texts that are not those of a number
NO_NUMBERS = ["", " ", "-", "+", "+5", "--5", "-+5", "05", "00", "-0", "-00", "-05", "5 ", " 5", "5.0", "5_0", "1e3",
              "0x5", "a", "u8", "none", "1" * 61, "-" + "1" * 61, "1" + "0" * 60, "5:", "5: ", "- 5"]


def run(number, chain):
    """What the document says, by remainders, because the widths here are too great to search."""
    for word, amount in chain:
        if word == "add":
            number += amount
        else:
            number %= 2 ** amount
            if word == "s" and number >= 2 ** (amount - 1):
                number -= 2 ** amount
    return number


def state(made):
    """All that can be asked of a register."""
    return (made.number, made.steps, made.changes, list(made.past()))


def wanted_state(number, chain):
    """The same, from the document's words."""
    past = [run(number, chain[:count]) for count in range(len(chain) + 1)]
    changes = len([index for index, step in enumerate(chain)
                   if step[0] != "add" and past[index] != past[index + 1]])
    return (past[-1], chain, changes, past)


def first_changing(number, chain):
    """The index of the first cast that changes the number, or None."""
    for index, step in enumerate(chain):
        if step[0] != "add" and run(number, chain[:index]) != run(number, chain[:index + 1]):
            return index
    return None


class RegisterTest(unittest.TestCase):
    def test_at_the_start(self):
        for made_by in CLASSES:
            for number in (0, 1, -1, BIG, -BIG):
                self.assertEqual(state(made_by(number)), (number, [], 0, [number]))
                self.assertEqual(state(made_by(number=number)), (number, [], 0, [number]))

    def test_small_chains(self):
        for chain in small_chains(3):
            for number in (-7, 0, 3, 12):
                made = Register(number)
                self.assertIs(made.convert(*chain), None)
                self.assertEqual(state(made), wanted_state(number, chain))

    def test_several_calls_do_what_one_does(self):
        chain = [("u", 8), ("add", 4), ("s", 8), ("u", 3), ("add", -BIG), ("s", 64)]
        for first in range(len(chain) + 1):
            for second in range(first, len(chain) + 1):
                made = Register(300)
                made.convert(*chain[:first])
                made.convert()
                made.convert(*chain[first:second])
                made.convert(*chain[second:])
                self.assertEqual(state(made), wanted_state(300, chain))

    def test_no_steps(self):
        for made_by in CLASSES:
            made = made_by(300)
            self.assertIs(made.convert(), None)
            self.assertEqual(state(made), (300, [], 0, [300]))

    def test_changes_are_casts_that_change_the_number(self):
        made = Register(5)
        made.convert(("add", 1), ("add", 0), ("u", 8), ("s", 8), ("add", -7))
        self.assertEqual(made.changes, 0)
        made.convert(("u", 8), ("u", 8), ("s", 8), ("u", 1), ("s", 1))
        self.assertEqual(made.changes, 3 + 1)
        made.convert(("s", 1), ("add", 2), ("u", 1))
        self.assertEqual(made.changes, 4)

    def test_invalid_steps(self):
        for made_by in CLASSES:
            for chain, index in INVALID:
                with self.subTest(made_by=made_by, chain=chain):
                    made = made_by(300)
                    made.convert(("add", 5), ("u", 9))
                    before = state(made)
                    with self.assertRaises(InvalidStep) as context:
                        made.convert(*chain)
                    self.assertEqual(context.exception.value, index)
                    self.assertEqual(state(made), before)

    def test_undo(self):
        chain = [("u", 8), ("add", 4), ("s", 8), ("u", 3), ("add", -BIG), ("s", 64), ("u", 1)]
        made = Register(300)
        made.convert(*chain[:2])
        made.convert(*chain[2:])
        for count in range(len(chain) - 1, -1, -1):
            self.assertIs(made.undo(), None)
            self.assertEqual(state(made), wanted_state(300, chain[:count]))
        for _ in range(2):
            with self.assertRaises(NothingToUndo) as context:
                made.undo()
            self.assertEqual(context.exception.value, 0)
            self.assertEqual(state(made), (300, [], 0, [300]))

    def test_undo_of_a_call_without_steps(self):
        for made_by in CLASSES:
            made = made_by(3)
            made.convert()
            self.assertRaises(NothingToUndo, made.undo)
            made.convert(("add", 2), ("add", 3))
            made.convert()
            made.undo()
            self.assertEqual(state(made), (5, [("add", 2)], 0, [3, 5]))

    def test_other_steps_after_undo(self):
        made = Register(300)
        made.convert(("u", 8), ("u", 2))
        made.undo()
        made.convert(("add", 1), ("s", 4))
        self.assertEqual(state(made), (-3, [("u", 8), ("add", 1), ("s", 4)], 2, [300, 44, 45, -3]))

    def test_steps_are_a_new_list(self):
        for made_by in CLASSES:
            made = made_by(3)
            made.convert(("u", 8))
            found = made.steps
            found.append(("add", 1))
            found[0] = ("u", 0)
            self.assertEqual(state(made), (3, [("u", 8)], 0, [3, 3]))
            self.assertIsNot(made.steps, made.steps)
            self.assertIs(type(made.steps), list)

    def test_past_yields(self):
        made = Register(300)
        made.convert(("u", 8), ("s", 4))
        asked = made.past()
        self.assertIs(iter(asked), asked)
        self.assertEqual([next(asked), next(asked)], [300, 44])
        self.assertEqual(list(made.past()), [300, 44, -4])
        self.assertEqual(list(asked), [-4])

    def test_properties_cannot_be_assigned(self):
        for made_by in CLASSES:
            made = made_by(3)
            for name in ("number", "steps", "changes"):
                with self.assertRaises(AttributeError):
                    setattr(made, name, 4)
            self.assertEqual(state(made), (3, [], 0, [3]))

    def test_objects_share_nothing(self):
        first, second = Register(3), Register(3)
        first.convert(("add", 1))
        self.assertEqual(state(second), (3, [], 0, [3]))

    def test_many_calls(self):
        chance = random.Random(4)
        for made_by in CLASSES:
            for _ in range(60):
                number = chance.choice([0, 300, -BIG, BIG])
                made, chain = made_by(number), []
                for _ in range(40):
                    steps = [chance.choice([("u", 8), ("s", 8), ("u", 64), ("s", 64), ("add", 100), ("add", -BIG)])
                             for _ in range(chance.randrange(4))]
                    if chance.randrange(3) == 0 and chain:
                        made.undo()
                        chain.pop()
                    elif made_by is CheckedRegister and first_changing(made.number, steps) is not None:
                        self.assertRaises(ChangedNumber, made.convert, *steps)
                    else:
                        made.convert(*steps)
                        chain.extend(steps)
                self.assertEqual(state(made), wanted_state(number, chain))


class EqualityTest(unittest.TestCase):
    def test_by_the_present_number_alone(self):
        for made_by in CLASSES:
            first, second = made_by(7), made_by(5)
            self.assertTrue(first != second)
            self.assertFalse(first == second)
            second.convert(("add", 2), ("u", 8))
            self.assertTrue(first == second)
            self.assertFalse(first != second)
            self.assertTrue(first == first)
            second.undo()
            second.undo()
            self.assertFalse(first == second)

    def test_of_one_class_alone(self):
        class Other(Register):
            pass

        made = [Register(7), CheckedRegister(7), Other(7)]
        for first in made:
            for second in made:
                self.assertIs(first == second, first is second)
                self.assertIs(first != second, first is not second)

    def test_not_to_anything_else(self):
        for made_by in CLASSES:
            for other in (7, "7", None, (7,), [7], {"number": 7}, True, object(), Register, made_by):
                self.assertIs(made_by(7) == other, False)
                self.assertIs(other == made_by(7), False)
                self.assertIs(made_by(7) != other, True)


class CheckedRegisterTest(unittest.TestCase):
    def test_changed_numbers(self):
        for number, chain, index in CHANGING:
            with self.subTest(number=number, chain=chain):
                made = CheckedRegister(number)
                with self.assertRaises(ChangedNumber) as context:
                    made.convert(*chain)
                self.assertEqual(context.exception.value, index)
                self.assertEqual(state(made), (number, [], 0, [number]))
                made.convert(*chain[:index])
                self.assertEqual(state(made), wanted_state(number, chain[:index]))
                with self.assertRaises(ChangedNumber) as context:
                    made.convert(*chain[index:])
                self.assertEqual(context.exception.value, 0)
                self.assertEqual(state(made), wanted_state(number, chain[:index]))
                # a register without checks takes these steps
                Register(number).convert(*chain)

    def test_small_chains(self):
        for chain in small_chains(3):
            for number in (-7, 0, 3, 12):
                made = CheckedRegister(number)
                index = first_changing(number, chain)
                if index is None:
                    self.assertIs(made.convert(*chain), None)
                    self.assertEqual(state(made), wanted_state(number, chain))
                    self.assertEqual(made.changes, 0)
                else:
                    with self.assertRaises(ChangedNumber) as context:
                        made.convert(*chain)
                    self.assertEqual(context.exception.value, index)
                    self.assertEqual(state(made), (number, [], 0, [number]))

    def test_additions_may_change_the_number(self):
        made = CheckedRegister(3)
        made.convert(("add", BIG), ("add", -BIG), ("u", 2), ("add", -5), ("s", 2))
        self.assertEqual(made.number, -2)
        made.undo()
        self.assertEqual(state(made), wanted_state(3, [("add", BIG), ("add", -BIG), ("u", 2), ("add", -5)]))

    def test_invalid_steps_come_first(self):
        made = CheckedRegister(300)
        with self.assertRaises(InvalidStep) as context:
            made.convert(("u", 8), ("add", 1), ("x", 1))
        self.assertEqual(context.exception.value, 2)
        with self.assertRaises(InvalidStep) as context:
            made.convert(("s", 0), ("u", 8))
        self.assertEqual(context.exception.value, 0)
        self.assertEqual(state(made), (300, [], 0, [300]))

    def test_nothing_to_undo(self):
        made = CheckedRegister(300)
        self.assertRaises(ChangedNumber, made.convert, ("add", 0), ("u", 8))
        with self.assertRaises(NothingToUndo) as context:
            made.undo()
        self.assertEqual(context.exception.value, 0)

    def test_is_a_register(self):
        self.assertEqual(CheckedRegister.__bases__, (Register,))


class ReadTest(unittest.TestCase):
    def test_number_and_chain(self):
        for number in (0, 5, -5, 10, -10, 300, BIG, -BIG, 10 ** 60 - 1, 1 - 10 ** 60):
            for text, chain in TEXTS:
                with self.subTest(number=number, text=text):
                    made = Register.read(f"{number}: {text}")
                    self.assertIs(type(made), Register)
                    self.assertEqual(state(made), wanted_state(number, chain))

    def test_small_chains(self):
        for chain in small_chains(3):
            made = Register.read(text="-6: " + show_chain(chain))
            self.assertEqual(state(made), wanted_state(-6, chain))

    def test_class_on_which_it_is_called(self):
        class Other(Register):
            pass

        for made_by in (*CLASSES, Other):
            made = made_by.read("5: u8 +3")
            self.assertIs(type(made), made_by)
            self.assertEqual(state(made), (8, [("u", 8), ("add", 3)], 0, [5, 5, 8]))
            self.assertEqual(state(made_by.read("5: none")), (5, [], 0, [5]))
            self.assertIs(type(made_by(3).read("5: none")), made_by)

    def test_steps_can_be_undone(self):
        made = Register.read("300: u8 +4")
        made.undo()
        made.convert(("s", 4))
        self.assertEqual(state(made), wanted_state(300, [("u", 8), ("s", 4)]))

    def test_unreadable(self):
        texts = [f"{start}: none" for start in NO_NUMBERS]
        texts += [f"5: {chain}" for chain in NO_CHAINS]
        texts += ["", "5", ":", ": ", ": none", "5:", "5: ", "5:none", "5 : none", "5:  none", "5; none", "5 none",
                  " 5: none", "5: none ", "5: 5: none", "5: none: none", "5:u8", "none", "u8 +3", "none: 5", "5: u8:",
                  "5: u8 +3\n", "5. u8", "5: u8: +3", "(5): u8"]
        for made_by in CLASSES:
            for text in texts:
                with self.subTest(made_by=made_by, text=text):
                    with self.assertRaises(Unreadable) as context:
                        made_by.read(text)
                    self.assertEqual(context.exception.value, text)

    def test_checked(self):
        for number, chain, index in CHANGING:
            text = f"{number}: {show_chain(chain)}"
            with self.subTest(text=text):
                with self.assertRaises(ChangedNumber) as context:
                    CheckedRegister.read(text)
                self.assertEqual(context.exception.value, index)
                self.assertEqual(state(Register.read(text)), wanted_state(number, chain))

    def test_unreadable_comes_before_changed_numbers(self):
        for text in ("300: u8 u0", "300: u8 ", "0300: u8", "300: u8 -0"):
            with self.assertRaises(Unreadable) as context:
                CheckedRegister.read(text)
            self.assertEqual(context.exception.value, text)


if __name__ == "__main__":
    unittest.main()
