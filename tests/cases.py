"""What several test files need: forms with values that ascend, values of every kind, and checks."""

import unittest

from keyrise.compounds import Choice, Many, Maybe, Record, Turned
from keyrise.errors import Left, NoFit, Short, Wrong
from keyrise.forms import Fraction, Letters, Nothing, Span, Truth, Whole

TOP = 2 ** 255 - 2
BOTTOM = 1 - 2 ** 255
AROUND = [("", ""), ("", "0"), ("", "1"), ("0", ""), ("1", ""), ("0110", "1001"), ("111", "000"), ("000", "111")]
LETTERS = "abcdefghijklmnopqrstuvwxyz"


def fibonacci_fraction(steps):
    """The fraction of that many steps, all of them one but the last, which is two."""
    top, bottom = 2, 1
    for k in range(steps - 1):
        top, bottom = top + bottom, top
    return (top, bottom)


# Of each kind that a point calls "anything", small and great, nested and not.
ANYTHING = [
    None, True, False, 0, 1, -1, 2, 5, 6, TOP, TOP + 1, BOTTOM, BOTTOM - 1, 10 ** 5000, -(10 ** 5000),
    "", "a", "b", "ab", "ba", "abc", "A", "0", "1", "a b", "\n", "\u00e9", "a" * 200, "a" * 201, "b" * 5000,
    (), (None,), (True,), (0,), (1,), ("a",), ((),), ([],), ((0,),),
    (0, 1), (1, 2), (-7, 5), (7, 5), (2, 4), (0, 2), (1, 0), (0, 0), (-1, 0), (1, -2), (-1, -2), (True, 2),
    (1, True), (False, 1), ("1", 2), (None, None), (TOP, 1), (TOP + 1, 1), (BOTTOM, 1), (BOTTOM - 1, 1),
    (1, TOP + 1), (1, TOP + 2), (-1, TOP + 2), (-1, TOP + 3), (10 ** 5000, 1), fibonacci_fraction(1000),
    ([], []), ([0], 1),
    ("a", None), ("b", 1), ("b", True), ("c", None), ("a", "a"), (["a"], None), (None, "a"), (0, "a"), (0, "ab"),
    (True, "a"), (1, 2, 3), (0, "a", None), tuple(range(64)),
    [], [None], [True], [0], [1], [5, 0], [6], [0, True], [0, None], ["a"], [()], [[]], [[0], []], [[[]]], [(0, 1)],
    [(2, 4)], [0, 1], [None] * 60, [None] * 61, [0] * 60, [0] * 61, [0] * 59 + [None], [[0] * 61], [[0] * 60] * 60,
    list(range(64)), [0] * 5000,
]


def same(one, other):
    """Whether two values are the same and of the same kinds: True isn't 1, a list is no tuple."""
    if type(one) is not type(other):
        return False
    if isinstance(one, (list, tuple)):
        return len(one) == len(other) and all(same(a, b) for a, b in zip(one, other))
    return one == other


def rows_of_length(length):
    return [bin(2 ** length + k)[3:] for k in range(2 ** length)]


def rows_up_to(length):
    return [row for k in range(length + 1) for row in rows_of_length(k)]


def outcome(ask, *handed):
    """What is told, or the refusal's name and place."""
    try:
        return ("told", ask(*handed))
    except (Short, Wrong, Left) as e:
        return (type(e).__name__, e.place)


# The text that writes a form, the form, and values of it, ascending.
PLAIN_FORMS = [
    ("nothing", Nothing(), [None]),
    ("truth", Truth(), [False, True]),
    ("whole", Whole(), [BOTTOM, -(10 ** 40), -8, -3, -2, -1, 0, 1, 2, 3, 7, 10 ** 40, TOP]),
    ("span(0, 5)", Span(0, 5), [0, 1, 2, 3, 4, 5]),
    ("span(-3, 1)", Span(-3, 1), [-3, -2, -1, 0, 1]),
    ("span(-20, -10)", Span(-20, -10), [-20, -19, -15, -12, -11, -10]),
    ("span(9, 9)", Span(9, 9), [9]),
    ("span(" + "-" + "9" * 58 + ", " + "9" * 58 + ")", Span(1 - 10 ** 58, 10 ** 58 - 1),
     [1 - 10 ** 58, -1, 0, 1, 10 ** 58 - 1]),
    ("fraction", Fraction(), [
        (BOTTOM, 1), (-7, 2), (-3, 1), (-5, 2), (-2, 1), (-7, 5), (-4, 3), (-1, 1), (-1, 2), (-1, TOP + 1), (0, 1),
        (1, TOP + 1), (1, 3), (2, 5), (3, 7), (1, 2), (3, 5), (2, 3), (3, 4), (1, 1), (7, 5), (10, 7), (3, 2), (2, 1),
        (TOP, 1)]),
    ("letters(a)", Letters("a"), ["", "a", "aa", "a" * 199, "a" * 200]),
    ("letters(ba)", Letters("ba"), ["", "b", "bb", "bba", "ba", "bab", "a", "ab", "aa"]),
    ("letters(zA0)", Letters("zA0"), ["", "z", "zz", "zA", "z0", "A", "Az", "A0", "0", "0z", "00" + "0" * 198]),
]
COMPOUND_FORMS = [
    ("maybe(nothing)", Maybe(Nothing()), [(), (None,)]),
    ("maybe(span(0, 5))", Maybe(Span(0, 5)), [(), (0,), (1,), (5,)]),
    ("maybe(maybe(truth))", Maybe(Maybe(Truth())), [(), ((),), ((False,),), ((True,),)]),
    ("many(nothing)", Many(Nothing()), [[], [None], [None, None], [None] * 59, [None] * 60]),
    ("many(truth)", Many(Truth()), [[], [False], [False, False], [False, True], [True], [True, False], [True] * 60]),
    ("many(many(span(0, 2)))", Many(Many(Span(0, 2))),
     [[], [[]], [[], []], [[], [0]], [[0]], [[0], []], [[0, 2]], [[1]], [[2, 2]], [[2, 2], [0]]]),
    ("record(a truth)", Record([("a", Truth())]), [(False,), (True,)]),
    ("record(b span(0, 2), a letters(ab))", Record([("b", Span(0, 2)), ("a", Letters("ab"))]),
     [(0, ""), (0, "a"), (0, "b"), (1, ""), (1, "bb"), (2, "a"), (2, "ab")]),
    ("record(n nothing, m many(whole), t turned(truth))",
     Record([("n", Nothing()), ("m", Many(Whole())), ("t", Turned(Truth()))]),
     [(None, [], True), (None, [], False), (None, [-1], True), (None, [-1, 5], True), (None, [0], False)]),
    ("choice(one nothing)", Choice([("one", Nothing())]), [("one", None)]),
    ("choice(b whole, a nothing, c truth)", Choice([("b", Whole()), ("a", Nothing()), ("c", Truth())]),
     [("b", -5), ("b", 0), ("b", 3), ("a", None), ("c", False), ("c", True)]),
    ("turned(whole)", Turned(Whole()), [TOP, 2, 1, 0, -1, -2, BOTTOM]),
    ("turned(nothing)", Turned(Nothing()), [None]),
    ("turned(turned(truth))", Turned(Turned(Truth())), [False, True]),
    ("turned(fraction)", Turned(Fraction()), [(2, 1), (7, 5), (1, 1), (1, 2), (1, 3), (0, 1), (-1, 2), (-7, 5)]),
    ("turned(letters(ab))", Turned(Letters("ab")), ["bb", "ba", "b", "ab", "aa", "a", ""]),
    ("turned(many(span(0, 2)))", Turned(Many(Span(0, 2))), [[2, 0], [2], [1, 1], [1], [0, 0], [0], []]),
    ("many(turned(span(0, 2)))", Many(Turned(Span(0, 2))), [[], [2], [2, 2], [2, 1], [1], [0], [0, 2], [0, 0]]),
]


def some_of(values):
    """At most ten of the values, both ends among them."""
    if len(values) <= 10:
        return values
    return values[:4] + values[len(values) // 2:len(values) // 2 + 2] + values[-4:]


def wrapped(kind, made):
    """A form around a form, with its text and values that ascend, told by the values of the inner one."""
    text, form, values = made
    if kind == "maybe":
        return (f"maybe({text})", Maybe(form), [()] + [(value,) for value in values])
    if kind == "many":
        lists = [[]]
        for one in values:
            lists.append([one])
            lists.extend([one, other] for other in values)
        return (f"many({text})", Many(form), lists)
    if kind == "record":
        tuples = [(n, value, flag) for n in (0, 2) for value in values for flag in (False, True)]
        parts = [("n", Span(0, 2)), ("inner", form), ("flag", Truth())]
        return (f"record(n span(0, 2), inner {text}, flag truth)", Record(parts), tuples)
    if kind == "choice":
        tuples = [("x", None)] + [("inner", value) for value in values] + [("a", -1), ("a", 4)]
        cases = [("x", Nothing()), ("inner", form), ("a", Whole())]
        return (f"choice(x nothing, inner {text}, a whole)", Choice(cases), tuples)
    return (f"turned({text})", Turned(form), values[::-1])


KINDS = ("maybe", "many", "record", "choice", "turned")


def deep_forms():
    """Forms within forms, eight deep: each kind around each other one, from each plain form outward."""
    told = []
    for k, plain in enumerate(PLAIN_FORMS):
        for step in (1, 2, 3):
            made = (plain[0], plain[1], some_of(plain[2]))
            for level in range(7):
                made = wrapped(KINDS[(k + step * level) % 5], made)
                made = (made[0], made[1], some_of(made[2]))
            told.append(made)
    return told


DEEP_FORMS = deep_forms()
ALL_FORMS = PLAIN_FORMS + COMPOUND_FORMS + DEEP_FORMS


class FormCase(unittest.TestCase):
    def check_placed(self, made, place, ask, *handed):
        with self.assertRaises(made) as caught:
            ask(*handed)
        self.assertEqual(caught.exception.place, place)

    def check_same(self, one, other):
        self.assertTrue(same(one, other), (one, other))

    def check_fitting(self, form, values):
        """Of all the values of any kind just these fit, and row refuses the others."""
        for value in ANYTHING:
            fitting = any(same(value, other) for other in values)
            self.assertIs(form.fits(value), fitting)
            if fitting:
                self.assertIsInstance(form.row(value), str)
            else:
                self.assertRaises(NoFit, form.row, value)

    def check_by_rows(self, form, signs, rows):
        """What reading must tell, where rows is a dict of rows with their values.

        The rows must be all that begin with any beginning of the signs, or as many as show that one does.
        """
        for k in range(len(signs) + 1):
            if signs[:k] in rows:
                self.check_same(form.read(signs, 0), (rows[signs[:k]], k))
                return
            if not any(row.startswith(signs[:k]) for row in rows):
                self.check_placed(Wrong, k - 1, form.read, signs, 0)
                return
        self.check_placed(Short, len(signs), form.read, signs, 0)

    def check_all_signs(self, form, values, length):
        rows = {form.row(value): value for value in values}
        for signs in rows_up_to(length):
            self.check_by_rows(form, signs, rows)
