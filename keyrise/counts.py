"""Rows of counts, of whole numbers and of bounded numbers, and the reading of them.

The functions called draw_.. take a source and leave it behind the row, so that other rows may hold these.
"""

from keyrise.errors import NoFit
from keyrise.source import Source

MOST_DIGITS = 255
MOST_AHEAD = 7


def turned_row(row):
    return "".join(["1" if sign == "0" else "0" for sign in row])


def lower_digits(n, width):
    return "".join(["1" if (n >> k) & 1 == 1 else "0" for k in range(width - 1, -1, -1)])


def is_count(n):
    return n >= 0 and (n + 1).bit_length() <= MOST_DIGITS


def has_whole_row(n):
    return is_count(n if n >= 0 else -1 - n)


def count_row(n):
    if not is_count(n):
        raise NoFit("the number is out of the range of counts")
    m = n + 1
    digits = m.bit_length()
    ahead = digits.bit_length() - 1
    # As many signs 1 as there may be end by themselves, without a 0.
    end = "" if ahead == MOST_AHEAD else "0"
    return "1" * ahead + end + lower_digits(digits, ahead) + lower_digits(m, digits - 1)


def whole_row(n):
    if n < 0:
        return "0" + turned_row(count_row(-1 - n))
    return "1" + count_row(n)


def fixed_row(n, most):
    if n < 0 or n > most:
        raise NoFit("the number is out of its bounds")
    return lower_digits(n, most.bit_length())


def draw_lower_digits(source, width):
    # The highest digit is always 1, so rows leave it out.
    n = 1
    for k in range(width):
        n = 2 * n + source.draw()
    return n


def draw_count(source):
    ahead = 0
    while ahead < MOST_AHEAD and source.draw() == 1:
        ahead = ahead + 1
    digits = draw_lower_digits(source, ahead)
    return draw_lower_digits(source, digits - 1) - 1


def draw_whole(source):
    if source.draw() == 1:
        return draw_count(source)
    source.turn()
    n = -1 - draw_count(source)
    source.turn()
    return n


def draw_fixed(source, most):
    n = 0
    for k in range(most.bit_length() - 1, -1, -1):
        n = 2 * n + source.draw()
        # Asked at each sign, since the refusal tells the first place at which it is due.
        if n > most >> k:
            source.refuse()
    return n


def read_count(signs, at):
    source = Source(signs, at)
    n = draw_count(source)
    return (n, source.place)


def read_whole(signs, at):
    source = Source(signs, at)
    n = draw_whole(source)
    return (n, source.place)


def read_fixed(signs, at, most):
    source = Source(signs, at)
    n = draw_fixed(source, most)
    return (n, source.place)
