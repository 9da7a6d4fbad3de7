"""Steps and chains, and what they make of a number."""

from castchains.errors import InvalidStep


def is_cast(word, width):
    """Returns True if the word and the width are a cast, otherwise False."""
    return word in ("u", "s") and width >= 1


def check_chain(chain):
    """Raises InvalidStep with the index of the first tuple that is not a step."""
    for index, (word, amount) in enumerate(chain):
        if word != "add" and not is_cast(word, amount):
            raise InvalidStep(index)


def lowest_result(word, width):
    """Returns the least number to which a cast leads."""
    if word == "u":
        return 0
    return -(1 << (width - 1))


def cast(number, word, width):
    """Returns what a valid cast makes of a number."""
    lowest = lowest_result(word, width)
    return lowest + (number - lowest) % (1 << width)


def after_step(number, step):
    """Returns what a valid step makes of a number."""
    word, amount = step
    if word == "add":
        return number + amount
    return cast(number, word, amount)


def converted(number, chain):
    """Returns what a chain makes of a number."""
    check_chain(chain)
    for step in chain:
        number = after_step(number, step)
    return number


def stages(number, chain):
    """Yields the number and what it is after each step of a chain."""
    check_chain(chain)
    yield number
    for step in chain:
        number = after_step(number, step)
        yield number


def fits(number, word, width):
    """Returns True if a cast leaves a number as it is, otherwise False."""
    if not is_cast(word, width):
        raise InvalidStep(0)
    return cast(number, word, width) == number
