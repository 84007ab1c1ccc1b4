"""Points 19 and 20: rows read whole, and values whose rows go on from begun ones."""

import unittest

from cases import ALL_FORMS, BOTTOM, FormCase, TOP, fibonacci_fraction, outcome, rows_up_to
from keyrise.compounds import Choice, Many, Maybe, Record, Turned
from keyrise.counts import turned_row
from keyrise.errors import Left, Short, Wrong
from keyrise.forms import Fraction, Letters, Nothing, Span, Truth, Whole
from keyrise.fractions import fraction_of
from keyrise.reading import begun_by, read_all

BEHIND = ["0", "1", "00", "11", "0110", "1" * 300, "0" * 300]
# Of each form, with empty rows among them, and forms within forms, for all the signs up to some length.
SMALL_FORMS = [
    Nothing(), Truth(), Whole(), Span(0, 0), Span(-2, 2), Span(0, 5), Span(0, 10), Fraction(), Letters("a"),
    Letters("ab"), Letters("abc"), Letters("abcdefg"), Maybe(Nothing()), Maybe(Span(0, 4)), Maybe(Maybe(Truth())),
    Many(Nothing()), Many(Truth()), Many(Span(0, 2)), Many(Many(Truth())), Many(Fraction()), Many(Whole()),
    Record([("a", Nothing())]), Record([("a", Span(0, 2)), ("b", Turned(Span(0, 2))), ("c", Truth())]),
    Record([("a", Fraction()), ("b", Fraction())]), Record([("a", Turned(Letters("abc"))), ("b", Whole())]),
    Choice([("a", Span(3, 3))]), Choice([("a", Nothing()), ("b", Truth()), ("c", Span(0, 2))]),
    Choice([("a", Fraction()), ("b", Turned(Fraction()))]), Maybe(Turned(Many(Fraction()))),
    Many(Choice([("a", Nothing()), ("b", Many(Nothing())), ("c", Whole())])), Many(Turned(Span(0, 2))),
]


class ReadAll(FormCase):
    def test_rows_of_values(self):
        for text, form, values in ALL_FORMS:
            for value in values:
                self.check_same(read_all(form, form.row(value)), value)

    def test_what_is_told_is_told_anew(self):
        form = Record([("a", Many(Many(Truth()))), ("b", Maybe(Many(Nothing())))])
        value = ([[True], []], ([None],))
        row = form.row(value)
        told = read_all(form, row)
        told[0][0].append("x")
        told[0].append("x")
        told[1][0].clear()
        self.check_same(read_all(form, row), value)

    def test_every_cut_is_short(self):
        for text, form, values in ALL_FORMS:
            for value in values:
                row = form.row(value)
                for k in range(len(row)):
                    self.check_placed(Short, k, read_all, form, row[:k])

    def test_all_signs_as_read_tells(self):
        for form in SMALL_FORMS:
            for outer in (form, Turned(form)):
                for signs in rows_up_to(9):
                    told = outcome(outer.read, signs, 0)
                    if told[0] == "told":
                        value, place = told[1]
                        told = ("told", value) if place == len(signs) else ("Left", place)
                    self.check_same(outcome(read_all, outer, signs), told)

    def test_wrong_places(self):
        self.check_placed(Wrong, 1, read_all, Span(0, 5), "11")
        self.check_placed(Wrong, 1, read_all, Span(0, 5), "1110")
        self.check_placed(Wrong, 2, read_all, Letters("abc"), "111")
        self.check_placed(Wrong, 4, read_all, Fraction(), "10111")
        self.check_placed(Wrong, 60, read_all, Many(Nothing()), "1" * 61)
        self.check_placed(Wrong, 200, read_all, Letters("a"), "1" * 300)
        self.check_placed(Wrong, 1, read_all, Turned(Choice([(name, Truth()) for name in "abc"])), "00")


class SignsBehind(FormCase):
    def test_signs_behind_a_row(self):
        for text, form, values in ALL_FORMS:
            for value in values:
                row = form.row(value)
                for behind in BEHIND:
                    self.check_placed(Left, len(row), read_all, form, row + behind)
                    self.check_placed(Left, len(row), begun_by, form, row + behind)

    def test_signs_behind_the_empty_row(self):
        for form, value in ((Nothing(), None), (Span(4, 4), 4), (Record([("a", Nothing())]), (None,)),
                            (Turned(Nothing()), None)):
            for ask in (read_all, begun_by):
                self.check_same(ask(form, ""), value)
                self.check_placed(Left, 0, ask, form, "0")
                self.check_placed(Left, 0, ask, form, "101")


class BegunBy(FormCase):
    def check_begun(self, form, signs):
        value = begun_by(form, signs)
        self.assertIs(form.fits(value), True)
        self.assertTrue(form.row(value).startswith(signs), (value, signs))
        self.check_same(begun_by(form, signs), value)

    def check_all_cuts(self, form, row):
        for k in range(len(row) + 1):
            self.check_begun(form, row[:k])

    def test_every_cut_of_rows(self):
        for text, form, values in ALL_FORMS:
            for value in values:
                self.check_all_cuts(form, form.row(value))

    def test_a_whole_row_tells_its_value(self):
        for text, form, values in ALL_FORMS:
            for value in values:
                self.check_same(begun_by(form, form.row(value)), value)

    def test_all_signs(self):
        for form in SMALL_FORMS:
            for outer in (form, Turned(form), Record([("x", Turned(form)), ("y", form)])):
                for signs in rows_up_to(9):
                    told = outcome(read_all, outer, signs)
                    if told[0] == "Short":
                        self.check_begun(outer, signs)
                    else:
                        self.check_same(outcome(begun_by, outer, signs), told)

    def check_full(self, form, row, most):
        """Of a form whose values hold at most so many things; row is the row of one of them."""
        full = ("1" + row) * most
        self.check_all_cuts(form, full + "0")
        for k in range(len(full) - len(row), len(full) + 1):
            self.assertEqual(len(begun_by(form, full[:k])), most)
        self.check_placed(Wrong, len(full), begun_by, form, full + "1")
        self.check_placed(Wrong, len(full), begun_by, form, full + "1001")
        self.check_placed(Wrong, len(full), begun_by, Turned(form), turned_row(full + "1"))
        self.check_placed(Left, len(full) + 1, begun_by, form, full + "01")

    def test_lists_cut_at_the_60th_value(self):
        for inner, row in ((Nothing(), ""), (Truth(), "1"), (Turned(Truth()), "0"), (Span(0, 2), "10"),
                           (Fraction(), "10" + "1" + "1" + "0" + "1000" + "0")):
            self.check_full(Many(inner), row, 60)

    def test_texts_cut_at_the_200th_sign(self):
        for signs, row in (("a", ""), ("ab", "1"), ("abc", "10"), ("abcde", "100")):
            self.check_full(Letters(signs), row, 200)

    def test_whole_numbers_cut_at_every_place(self):
        for n in (0, 1, 2, 3, 6, 7, 126, 127, 2 ** 31, 2 ** 64 - 1, 2 ** 127, 2 ** 200, TOP, -1, -2, -8, BOTTOM):
            for form in (Whole(), Turned(Whole()), Many(Whole()), Turned(Maybe(Whole()))):
                value = {"many(whole)": [n], "turned(maybe(whole))": (n,)}.get(form.shown(), n)
                self.check_all_cuts(form, form.row(value))

    def test_whole_numbers_of_ones_or_noughts_alone(self):
        # One sign tells on which side of nought it lies, 14 how many digits there are, and 254 are the lower ones.
        longest = 1 + 14 + 254
        for k in range(longest + 1):
            for sign in "01":
                self.check_begun(Whole(), sign * k)
                self.check_begun(Turned(Whole()), sign * k)
        self.check_same(begun_by(Whole(), "1" * longest), TOP)
        self.check_same(begun_by(Whole(), "0" * longest), BOTTOM)
        self.check_placed(Left, longest, begun_by, Whole(), "1" * (longest + 1))
        self.check_placed(Left, longest, begun_by, Whole(), "0" * (longest + 5))

    def test_fractions_of_ones_or_noughts_alone(self):
        whole = 1 + 14 + 254
        for form, one, nought in ((Fraction(), "1", "0"), (Turned(Fraction()), "0", "1")):
            for k in range(whole + 3):
                self.check_begun(form, one * k)
            # Behind the whole number and a 1 stands the turned count nought, and then 1 would end the row.
            self.check_placed(Wrong, whole + 2, begun_by, form, one * (whole + 3))
            for k in range(whole + 2):
                self.check_begun(form, nought * k)
            self.check_placed(Left, whole + 1, begun_by, form, nought * (whole + 2))

    def test_fractions_cut_at_every_place(self):
        told = [fibonacci_fraction(k) for k in (1, 2, 3, 4, 5, 20, 199, 200)]
        told = told + [fraction_of([-3] + [1] * 50 + [2]), fraction_of([0, 1, TOP + 1, 1, 1, 2]), (1, TOP + 1)]
        told = told + [fraction_of([BOTTOM] + [1, TOP + 1] * 3), fraction_of([5, 7, 1, 8, 1, 9])]
        for value in told:
            row = Fraction().row(value)
            self.check_all_cuts(Fraction(), row)
            self.check_all_cuts(Turned(Fraction()), turned_row(row))
            self.check_all_cuts(Record([("a", Turned(Fraction())), ("b", Truth())]), turned_row(row) + "1")

    def test_fractions_cut_behind_a_step_one(self):
        # Each step one is its count nought; the signs that go on and the counts are turned at every second step.
        signs = "10"
        for k in range(1, 200):
            signs = signs + ("1" if k % 2 == 1 else "0")
            self.check_begun(Fraction(), signs)
            signs = signs + ("1" if k % 2 == 1 else "0")
            self.check_begun(Fraction(), signs)
            self.check_begun(Turned(Fraction()), turned_row(signs))
            end = "1" if k % 2 == 1 else "0"
            self.check_placed(Wrong, len(signs), begun_by, Fraction(), signs + end)
            self.check_placed(Wrong, len(signs), begun_by, Fraction(), signs + end + "01")

    def test_a_wish_of_one_fraction_does_not_reach_the_next_form(self):
        form = Record([("a", Fraction()), ("b", Many(Fraction())), ("c", Letters("abc")), ("d", Many(Nothing()))])
        for signs in ("", "10", "101", "1011", "10110", "101101", "10101", "1010111"):
            self.check_begun(form, signs)
            self.assertLess(len(form.row(begun_by(form, signs))), 20)

    def test_what_is_told_is_told_anew(self):
        form = Many(Many(Truth()))
        for signs in ("", "1", "11", "1111", "11100"):
            told = begun_by(form, signs)
            told.append("x")
            self.check_begun(form, signs)

    def test_records_begun_by_their_first_part(self):
        for text, form, values in ALL_FORMS:
            outer = Record([("a", form), ("b", Turned(form))])
            for behind in [""] + BEHIND:
                signs = form.row(values[0]) + behind
                told = outcome(read_all, outer, signs)
                if told[0] == "Short":
                    self.check_begun(outer, signs)
                else:
                    self.check_same(outcome(begun_by, outer, signs), told)


if __name__ == "__main__":
    unittest.main()
