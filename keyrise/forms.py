"""What all forms have in common, and the forms that hold no other form.

Each form adds to Form: fits, ahead, shown, and the two that row and read go through, written(value), the
row of a value that fits, and draw(source), the value whose row the source stands at; the source is left
behind this row.
"""

from keyrise.counts import draw_fixed, draw_whole, fixed_row, has_whole_row, whole_row
from keyrise.errors import NoFit, NoForm
from keyrise.fractions import draw_fraction, has_fraction_row, row_of_steps, steps_of
from keyrise.source import Source

SMALL_LETTERS = "abcdefghijklmnopqrstuvwxyz"
FIGURES = "0123456789"
LETTERS_AND_FIGURES = "abcdefghijklmnopqrstuvwxyzABCDEFGHIJKLMNOPQRSTUVWXYZ0123456789"
MOST_SIGNS = 60
LONGEST_TEXT = 200


def is_number(value):
    # To Python truths are numbers too.
    return isinstance(value, int) and not isinstance(value, bool)


def made_of(text, signs):
    return all([sign in signs for sign in text])


class Form:
    def row(self, value):
        if not self.fits(value):
            raise NoFit("the value doesn't fit the form")
        return self.written(value)

    def read(self, signs, at):
        source = Source(signs, at)
        value = self.draw(source)
        return (value, source.place)


class Nothing(Form):
    def fits(self, value):
        return value is None

    def written(self, value):
        return ""

    def ahead(self, one, other):
        return False

    def draw(self, source):
        return None

    def shown(self):
        return "nothing"


class Truth(Form):
    def fits(self, value):
        return value is False or value is True

    def written(self, value):
        return "1" if value else "0"

    def ahead(self, one, other):
        return other and not one

    def draw(self, source):
        return source.draw() == 1

    def shown(self):
        return "truth"


class Whole(Form):
    def fits(self, value):
        return is_number(value) and has_whole_row(value)

    def written(self, value):
        return whole_row(value)

    def ahead(self, one, other):
        return one < other

    def draw(self, source):
        return draw_whole(source)

    def shown(self):
        return "whole"


class Span(Form):
    def __init__(self, low, high):
        if low > high:
            raise NoForm("the low end of a span is above its high end")
        self.low = low
        self.high = high

    def fits(self, value):
        return is_number(value) and self.low <= value and value <= self.high

    def written(self, value):
        return fixed_row(value - self.low, self.high - self.low)

    def ahead(self, one, other):
        return one < other

    def draw(self, source):
        return self.low + draw_fixed(source, self.high - self.low)

    def shown(self):
        return "span(" + str(self.low) + ", " + str(self.high) + ")"


class Fraction(Form):
    def fits(self, value):
        if not isinstance(value, tuple) or len(value) != 2:
            return False
        return is_number(value[0]) and is_number(value[1]) and has_fraction_row(value)

    def written(self, value):
        return row_of_steps(steps_of(value))

    def ahead(self, one, other):
        return one[0] * other[1] < other[0] * one[1]

    def draw(self, source):
        return draw_fraction(source)

    def shown(self):
        return "fraction"


class Letters(Form):
    def __init__(self, signs):
        if signs == "" or len(signs) > MOST_SIGNS:
            raise NoForm("the signs are none or too many")
        if len(set(signs)) < len(signs):
            raise NoForm("a sign stands twice")
        if not made_of(signs, LETTERS_AND_FIGURES):
            raise NoForm("a sign is neither a letter nor a figure")
        self.signs = signs

    def fits(self, value):
        return isinstance(value, str) and len(value) <= LONGEST_TEXT and made_of(value, self.signs)

    def places(self, text):
        return [self.signs.index(sign) for sign in text]

    def written(self, value):
        most = len(self.signs) - 1
        return "".join(["1" + fixed_row(place, most) for place in self.places(value)]) + "0"

    def ahead(self, one, other):
        return self.places(one) < self.places(other)

    def draw(self, source):
        text = ""
        while source.draw() == 1:
            if len(text) == LONGEST_TEXT:
                source.refuse()
            text = text + self.signs[draw_fixed(source, len(self.signs) - 1)]
        return text

    def shown(self):
        return "letters(" + self.signs + ")"
