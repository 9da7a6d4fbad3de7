"""Texts of chains: how they are written and read."""

import random
import re
import unittest
from itertools import product

from castchains.errors import Unreadable
from castchains.forms import chain_of
from castchains.readings import read_chain
from castchains.repeating import repeated
from castchains.texts import show_chain

from plain import small_chains

BIG = 10 ** 30

STEP = r"(?:[us][1-9][0-9]{0,2}|[+]0|[+-][1-9][0-9]{0,59})"
PATTERN = re.compile(f"none|{STEP}(?: {STEP})*")

TEXTS = [
    ("none", []),
    ("u1", [("u", 1)]),
    ("s1", [("s", 1)]),
    ("u8", [("u", 8)]),
    ("s16", [("s", 16)]),
    ("u64", [("u", 64)]),
    ("s100", [("s", 100)]),
    ("u999", [("u", 999)]),
    ("+0", [("add", 0)]),
    ("+5", [("add", 5)]),
    ("-3", [("add", -3)]),
    ("+10", [("add", 10)]),
    ("-100", [("add", -100)]),
    ("+1" + "0" * 30, [("add", BIG)]),
    ("-1" + "0" * 30, [("add", -BIG)]),
    ("+" + "9" * 60, [("add", 10 ** 60 - 1)]),
    ("-" + "9" * 60, [("add", 1 - 10 ** 60)]),
    ("u8 u8", [("u", 8), ("u", 8)]),
    ("+0 +0 +0", [("add", 0)] * 3),
    ("u8 +5 s16 -3", [("u", 8), ("add", 5), ("s", 16), ("add", -3)]),
    ("-1 s64 +1 u1", [("add", -1), ("s", 64), ("add", 1), ("u", 1)]),
    (" ".join(["u64"] * 12), [("u", 64)] * 12),
]

# texts that no chain has
NO_CHAINS = [
    "", " ", "  ",
    # words
    "u", "s", "x8", "U8", "S8", "us8", "add5", "add 5", "None", "NONE", "non", "nonee", "none0", "0", "5", "8u",
    # widths
    "u0", "s0", "u-1", "u+1", "u08", "s01", "u00", "u1000", "s0999", "u8.", "u8u8", "u8s8", "u 8", "u1_0", "u1e1",
    "u0x8", "u8,",
    # constants
    "+", "-", "+-5", "-+5", "++5", "--5", "-0", "-00", "+00", "+05", "-05", "+5+3", "+5-3", "+ 5", "- 5", "+5.0",
    "+1_000", "+1,000", "+0x1", "+1e3", "+a", "+5a", "+" + "1" * 61, "-" + "9" * 61, "+1" + "0" * 60, "+0" + "1" * 59,
    "-" + "0" * 60, "u" + "1" * 61, "+" + "9" * 3999, "u" + "9" * 3999,
    # spaces and signs between the steps
    " u8", "u8 ", "u8  +5", "u8+5", "u8,+5", "u8, +5", "u8;+5", "u8\t+5", "u8\n", "u8 +5 ", "(u8)", "[u8]",
    # the empty chain beside steps
    " none", "none ", "none none", "none u8", "u8 none", "u8 none +5",
    # other digits than 0 to 9
    "u\u00b2", "u\u0665", "+\u0665", "-\u0665",
    # one wrong step among good ones
    "u8 +5 s0", "x u8", "u8 5 s16", "u8 +5 S16 -3", "u8 -0 s16",
]


class ShowChainTest(unittest.TestCase):
    def test_texts(self):
        for text, chain in TEXTS:
            with self.subTest(text=text):
                self.assertEqual(show_chain(chain), text)
                self.assertIs(type(show_chain(chain)), str)

    def test_wider_and_greater_than_what_is_read(self):
        self.assertEqual(show_chain([("u", 1000), ("s", 12345)]), "u1000 s12345")
        for count in (60, 63, 64, 65, 127, 128, 129, 640, 4300, 4301, 10000):
            with self.subTest(count=count):
                self.assertEqual(show_chain([("add", 10 ** count)]), "+1" + "0" * count)
                self.assertEqual(show_chain([("add", -10 ** count)]), "-1" + "0" * count)
                self.assertEqual(show_chain([("add", 10 ** count - 1)]), "+" + "9" * count)
                self.assertEqual(show_chain([("add", -7 - 10 ** count)]), "-1" + "0" * (count - 1) + "7")

    def test_returned_values_of_many_digits(self):
        number = 10 ** 30
        for _ in range(8):
            number = repeated(0, [("add", number)], number)
        self.assertEqual(show_chain([("add", number)]), "+1" + "0" * (30 * 2 ** 8))
        self.assertEqual(show_chain(chain_of((number, (), (), None))), "+1" + "0" * (30 * 2 ** 8))


class ReadChainTest(unittest.TestCase):
    def test_texts(self):
        for text, chain in TEXTS:
            with self.subTest(text=text):
                self.assertEqual(read_chain(text), chain)

    def test_kinds_of_values(self):
        self.assertIs(type(read_chain("none")), list)
        for step in read_chain("u8 +5 s16 -3 +0"):
            self.assertIs(type(step), tuple)
            self.assertEqual([type(part) for part in step], [str, int])

    def test_there_and_back(self):
        for chain in small_chains():
            self.assertEqual(read_chain(show_chain(chain)), chain)

    def test_long_texts(self):
        for count in (1333, 4000):
            text = " ".join(["u8"] * count)
            self.assertEqual(read_chain(text), [("u", 8)] * count)
            self.assertEqual(show_chain([("u", 8)] * count), text)

    def test_unreadable(self):
        for text in NO_CHAINS:
            with self.subTest(text=text):
                with self.assertRaises(Unreadable) as context:
                    read_chain(text)
                self.assertEqual(context.exception.value, text)

    def check(self, text):
        """Compares read_chain on any text with the pattern, and what it reads with show_chain."""
        if PATTERN.fullmatch(text):
            self.assertEqual(show_chain(read_chain(text)), text)
            return
        with self.assertRaises(Unreadable) as context:
            read_chain(text)
        self.assertEqual(context.exception.value, text)

    def test_all_texts_of_a_few_signs(self):
        for length in range(6):
            for signs in product("us+-019 ", repeat=length):
                self.check("".join(signs))

    def test_spoiled_texts(self):
        chance = random.Random(8)
        texts = [text for text, _ in TEXTS]
        for _ in range(20000):
            text = chance.choice(texts)
            for _ in range(chance.randrange(1, 3)):
                place = chance.randrange(len(text) + 1)
                put = chance.choice(["", "", "0", "1", "-", "+", " ", "u", "s", "none", "_", ":"])
                text = text[:place] + put + text[place + chance.randrange(2):]
            self.check(text)


if __name__ == "__main__":
    unittest.main()
