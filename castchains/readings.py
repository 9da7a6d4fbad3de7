"""Chains and numbers from texts.

What reads a part of a text returns None if it cannot be read: the error
holds the whole text, which only the function that was called knows.
"""

from castchains.errors import Unreadable
from castchains.steps import is_cast

WIDTH_DIGITS = 3
NUMBER_DIGITS = 60


def read_digits(text, most):
    """Returns the integer of at least 0 with these digits, at most so many; None if there is none."""
    if not text.isascii() or not text.isdigit() or len(text) > most:
        return None
    if text[0] == "0" and len(text) > 1:
        return None
    return int(text)


def read_negative(text):
    """Returns the negative integer of a text that begins with `-`; None if there is none."""
    amount = read_digits(text[1:], NUMBER_DIGITS)
    if amount is None or amount == 0:
        return None
    return -amount


def read_number(text):
    """Returns the integer of a text, with `-` if it is negative; None if there is none."""
    if text.startswith("-"):
        return read_negative(text)
    return read_digits(text, NUMBER_DIGITS)


def read_constant(text):
    """Returns the integer of a text that begins with its sign; None if there is none."""
    if text.startswith("-"):
        return read_negative(text)
    if text.startswith("+"):
        return read_digits(text[1:], NUMBER_DIGITS)
    return None


def read_step(text):
    """Returns the step of a text; None if no step has it."""
    constant = read_constant(text)
    if constant is not None:
        return ("add", constant)
    word = text[:1]
    width = read_digits(text[1:], WIDTH_DIGITS)
    if width is None or not is_cast(word, width):
        return None
    return (word, width)


def read_steps(text):
    """Returns the chain of a text; None if no chain has it."""
    if text == "none":
        return []
    steps = [read_step(part) for part in text.split(" ")]
    if None in steps:
        return None
    return steps


def read_chain(text):
    """Returns the chain of a text."""
    chain = read_steps(text)
    if chain is None:
        raise Unreadable(text)
    return chain
