"""How many functions there are with the same widths and the same least value, and their numbers."""

from castchains.errors import InvalidForm, InvalidNumber
from castchains.forms import are_widths, is_form


def count_functions(widths):
    """Returns how many functions have forms with these widths and with one least value."""
    if not widths or not are_widths(widths):
        raise InvalidForm(None)
    period = 1 << widths[0]
    count = period
    for _ in widths[1:]:
        count = count * (period - 1)
    return count


def nth_form(widths, least, number):
    """Returns the form with these widths, this least value and a number, from 0 on."""
    count = count_functions(widths)
    # Only forms without widths have None as their least value.
    if least is None or number < 0 or number >= count:
        raise InvalidNumber(number)
    last = (1 << widths[0]) - 1
    cuts = []
    shift = number
    for _ in widths[1:]:
        shift, rest = divmod(shift, last)
        cuts.append(rest + 1)
    # The last cut changes fastest, so it was found first.
    return (shift, tuple(widths), tuple(cuts[::-1]), least)


def form_number(wanted):
    """Returns the number of a form among those with its widths and its least value."""
    if not is_form(wanted):
        raise InvalidForm(None)
    shift, widths, cuts, _ = wanted
    if not widths:
        raise InvalidForm(None)
    last = (1 << widths[0]) - 1
    number = shift
    for cut in cuts:
        number = number * last + cut - 1
    return number
