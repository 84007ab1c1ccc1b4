"""The forms that hold other forms.

Values of one form are the same just where Python calls them equal, so the first unlike parts of two values
are found by that, and only these are asked which comes ahead.
"""

from keyrise.counts import draw_fixed, fixed_row, turned_row
from keyrise.errors import NoForm
from keyrise.forms import Form, SMALL_LETTERS, made_of

MOST_VALUES = 60
MOST_PARTS = 20
LONGEST_NAME = 12


def first_unlike(one, other):
    place = 0
    while place < len(one) and place < len(other) and one[place] == other[place]:
        place = place + 1
    return place


def is_name(name):
    return 0 < len(name) and len(name) <= LONGEST_NAME and made_of(name, SMALL_LETTERS)


def names_of(parts):
    names = [part[0] for part in parts]
    if len(names) == 0 or len(names) > MOST_PARTS:
        raise NoForm("the parts are none or too many")
    if len(set(names)) < len(names):
        raise NoForm("a name stands twice")
    if not all([is_name(name) for name in names]):
        raise NoForm("a name isn't of one to twelve small letters")
    return names


def shown_parts(names, forms):
    return ", ".join([name + " " + form.shown() for name, form in zip(names, forms)])


class Maybe(Form):
    def __init__(self, inner):
        self.inner = inner

    def fits(self, value):
        if not isinstance(value, tuple) or len(value) > 1:
            return False
        return len(value) == 0 or self.inner.fits(value[0])

    def written(self, value):
        return "0" if len(value) == 0 else "1" + self.inner.written(value[0])

    def ahead(self, one, other):
        if len(one) == 0 or len(other) == 0:
            return len(one) < len(other)
        return self.inner.ahead(one[0], other[0])

    def draw(self, source):
        if source.draw() == 0:
            return ()
        return (self.inner.draw(source),)

    def shown(self):
        return "maybe(" + self.inner.shown() + ")"


class Many(Form):
    def __init__(self, inner):
        self.inner = inner

    def fits(self, value):
        if not isinstance(value, list) or len(value) > MOST_VALUES:
            return False
        return all([self.inner.fits(part) for part in value])

    def written(self, value):
        return "".join(["1" + self.inner.written(part) for part in value]) + "0"

    def ahead(self, one, other):
        place = first_unlike(one, other)
        if place == len(one) or place == len(other):
            return len(one) < len(other)
        return self.inner.ahead(one[place], other[place])

    def draw(self, source):
        values = []
        while source.draw() == 1:
            if len(values) == MOST_VALUES:
                source.refuse()
            values.append(self.inner.draw(source))
        return values

    def shown(self):
        return "many(" + self.inner.shown() + ")"


class Record(Form):
    def __init__(self, parts):
        self.names = names_of(parts)
        self.forms = [part[1] for part in parts]

    def fits(self, value):
        if not isinstance(value, tuple) or len(value) != len(self.forms):
            return False
        return all([form.fits(part) for form, part in zip(self.forms, value)])

    def written(self, value):
        return "".join([form.written(part) for form, part in zip(self.forms, value)])

    def ahead(self, one, other):
        place = first_unlike(one, other)
        return place < len(self.forms) and self.forms[place].ahead(one[place], other[place])

    def draw(self, source):
        return tuple([form.draw(source) for form in self.forms])

    def shown(self):
        return "record(" + shown_parts(self.names, self.forms) + ")"


class Choice(Form):
    def __init__(self, cases):
        self.names = names_of(cases)
        self.forms = [case[1] for case in cases]

    def fits(self, value):
        if not isinstance(value, tuple) or len(value) != 2 or value[0] not in self.names:
            return False
        return self.forms[self.names.index(value[0])].fits(value[1])

    def written(self, value):
        place = self.names.index(value[0])
        return fixed_row(place, len(self.names) - 1) + self.forms[place].written(value[1])

    def ahead(self, one, other):
        place = self.names.index(one[0])
        if one[0] != other[0]:
            return place < self.names.index(other[0])
        return self.forms[place].ahead(one[1], other[1])

    def draw(self, source):
        place = draw_fixed(source, len(self.names) - 1)
        return (self.names[place], self.forms[place].draw(source))

    def shown(self):
        return "choice(" + shown_parts(self.names, self.forms) + ")"


class Turned(Form):
    def __init__(self, inner):
        self.inner = inner

    def fits(self, value):
        return self.inner.fits(value)

    def written(self, value):
        return turned_row(self.inner.written(value))

    def ahead(self, one, other):
        return self.inner.ahead(other, one)

    def draw(self, source):
        source.turn()
        value = self.inner.draw(source)
        source.turn()
        return value

    def shown(self):
        return "turned(" + self.inner.shown() + ")"
