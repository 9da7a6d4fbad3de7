"""Forms: the same tuple for all chains that do the same."""

from castchains.errors import InvalidForm
from castchains.spread import Spread, number_at, spread_of


def form(chain):
    """Returns the form of a chain."""
    spread = spread_of(chain)
    if not spread.levels:
        return (spread.total, (), (), None)
    widths = tuple([level[0] for level in spread.levels])
    cuts = tuple([level[1] for level in spread.levels[1:]])
    least = spread.value_ranges()[0][0]
    return (spread.total % spread.period(), widths, cuts, least)


def same_function(first, second):
    """Returns True if two chains do the same, otherwise False."""
    return form(first) == form(second)


def are_widths(widths):
    """Returns True if the integers are at least 1 and strictly ascending, otherwise False."""
    return all([low < high for low, high in zip((0, *widths), widths)])


def is_form(wanted):
    """Returns True if a tuple is a form, otherwise False."""
    shift, widths, cuts, least = wanted
    if not widths:
        return cuts == () and least is None
    if least is None or not are_widths(widths) or len(cuts) != len(widths) - 1:
        return False
    # A number of at least 0 is less than 2 ** n if it has at most n bits.
    if shift < 0 or shift.bit_length() > widths[0]:
        return False
    return all([cut >= 1 and cut.bit_length() <= widths[0] for cut in cuts])


def spread_to(spread, widths, cuts):
    """Leads a new Spread to these widths and cuts, with 0 as the least value.

    Returns the chain that it took in.
    """
    chain = [("u", widths[0])]
    spread.take("u", widths[0])
    for width, cut in zip(widths[1:], cuts):
        # The first number behind the cut becomes 2 ** width, which the cast leads to 0.
        constant = (1 << width) - number_at(spread.value_ranges(), cut)
        chain.extend([("add", constant), ("u", width)])
        spread.take("add", constant)
        spread.take("u", width)
    return chain


def chain_of(wanted):
    """Returns a chain with a form."""
    if not is_form(wanted):
        raise InvalidForm(None)
    shift, widths, cuts, least = wanted
    if not widths:
        return [("add", shift)]
    spread = Spread()
    casts = spread_to(spread, widths, cuts)
    start = (shift - spread.total - least) % spread.period()
    return [("add", start), *casts, ("add", least)]
