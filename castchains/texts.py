"""Chains as texts."""

PART_DIGITS = 64
PART = 10 ** 64


def digits_of(number):
    """Returns the digits of an integer of at least 0."""
    # Part by part, because `str` alone fails for numbers of some thousand digits.
    parts = []
    while number >= PART:
        number, rest = divmod(number, PART)
        parts.append(str(rest).zfill(PART_DIGITS))
    parts.append(str(number))
    return "".join(parts[::-1])


def step_text(word, amount):
    """Returns the text of a valid step."""
    if word != "add":
        return word + digits_of(amount)
    sign = "-" if amount < 0 else "+"
    return sign + digits_of(abs(amount))


def show_chain(chain):
    """Returns the text of a valid chain."""
    if not chain:
        return "none"
    return " ".join([step_text(word, amount) for word, amount in chain])
