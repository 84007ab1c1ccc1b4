"""Point 15: the rows of values of forms, read."""

import itertools
import unittest

from cases import ALL_FORMS, AROUND, FormCase, LETTERS
from keyrise.compounds import Choice, Many, Maybe, Record, Turned
from keyrise.counts import turned_row
from keyrise.errors import Short, Wrong
from keyrise.forms import Fraction, Letters, Nothing, Span, Truth, Whole


def texts_of(signs, longest):
    return ["".join(text) for k in range(longest + 1) for text in itertools.product(signs, repeat=k)]


def lists_of(values, longest):
    return [list(told) for k in range(longest + 1) for told in itertools.product(values, repeat=k)]


class RowsRead(FormCase):
    def test_rows_among_other_signs(self):
        for text, form, values in ALL_FORMS:
            for value in values:
                row = form.row(value)
                for ahead, behind in AROUND:
                    told = form.read(ahead + row + behind, len(ahead))
                    self.check_same(told, (value, len(ahead) + len(row)))

    def test_every_cut_is_short(self):
        for text, form, values in ALL_FORMS:
            for value in values:
                row = form.row(value)
                for k in range(len(row)):
                    self.check_placed(Short, k, form.read, row[:k], 0)
                    self.check_placed(Short, k + 2, form.read, "01" + row[:k], 2)

    def test_rows_that_are_empty(self):
        for form, value in ((Nothing(), None), (Span(3, 3), 3), (Record([("a", Nothing())]), (None,)),
                            (Choice([("a", Span(-2, -2))]), ("a", -2)), (Turned(Nothing()), None)):
            self.assertEqual(form.read("", 0), (value, 0))
            self.assertEqual(form.read("0110", 2), (value, 2))
            self.assertEqual(form.read("0110", 4), (value, 4))


class AllSigns(FormCase):
    """Each row of signs up to some length, against all the rows of values that may begin with it."""

    def test_truth(self):
        self.check_all_signs(Truth(), [False, True], 4)
        self.check_all_signs(Turned(Truth()), [False, True], 4)

    def test_span(self):
        for number in range(1, 18):
            values = list(range(-5, number - 5))
            self.check_all_signs(Span(-5, number - 6), values, 7)
            self.check_all_signs(Turned(Span(-5, number - 6)), values, 7)

    def test_choice(self):
        for number in (1, 2, 3, 5, 6):
            cases = [(name, Span(0, 2)) for name in LETTERS[:number]]
            values = [(name, n) for name in LETTERS[:number] for n in range(3)]
            self.check_all_signs(Choice(cases), values, 7)
            self.check_all_signs(Turned(Choice(cases)), values, 7)

    def test_choice_of_twenty(self):
        form = Choice([(name, Nothing()) for name in LETTERS[:20]])
        self.check_all_signs(form, [(name, None) for name in LETTERS[:20]], 7)

    def test_letters(self):
        self.check_all_signs(Letters("a"), texts_of("a", 9), 8)
        self.check_all_signs(Letters("ab"), texts_of("ab", 5), 8)
        self.check_all_signs(Letters("abc"), texts_of("abc", 4), 9)
        self.check_all_signs(Letters("zyxwv"), texts_of("zyxwv", 3), 9)
        self.check_all_signs(Turned(Letters("abc")), texts_of("abc", 4), 9)

    def test_maybe(self):
        for inner in (Span(0, 4), Turned(Span(0, 4))):
            values = [()] + [(n,) for n in range(5)]
            self.check_all_signs(Maybe(inner), values, 6)
            self.check_all_signs(Turned(Maybe(inner)), values, 6)
            self.check_all_signs(Maybe(Maybe(inner)), [()] + [(value,) for value in values], 6)

    def test_many(self):
        for inner in (Span(0, 2), Turned(Span(0, 2))):
            self.check_all_signs(Many(inner), lists_of(range(3), 4), 9)
            self.check_all_signs(Turned(Many(inner)), lists_of(range(3), 4), 9)
        values = lists_of(lists_of(range(3), 2), 3)
        self.check_all_signs(Many(Many(Span(0, 2))), values, 6)

    def test_record(self):
        parts = [("a", Span(0, 2)), ("b", Letters("xyz")), ("c", Turned(Span(0, 4)))]
        values = list(itertools.product(range(3), texts_of("xyz", 3), range(5)))
        self.check_all_signs(Record(parts), values, 8)
        self.check_all_signs(Turned(Record(parts)), values, 8)


class WrongPlaces(FormCase):
    def check_wrong(self, form, good, signs):
        """Wrong at the sign behind those that are good, in the form and in forms around it."""
        self.assertEqual(signs[:-1], good)
        around = [
            (form, ""),
            (Turned(form), None),
            (Maybe(form), "1"),
            (Many(form), "1"),
            (Record([("a", Span(0, 4)), ("b", form), ("c", Whole())]), "100"),
            (Choice([("a", Nothing()), ("b", Nothing()), ("c", form)]), "10"),
            (Record([("a", Maybe(Many(form)))]), "11"),
        ]
        for outer, start in around:
            begun, whole = (turned_row(good), turned_row(signs)) if start is None else (start + good, start + signs)
            for ahead, behind in (("", ""), ("", "0110"), ("011", ""), ("1", "1" * 300)):
                at, row = len(ahead), ahead + whole + behind
                self.check_placed(Wrong, at + len(begun), outer.read, row, at)
            cut = "01" + begun
            self.check_placed(Short, len(cut), outer.read, cut, 2)

    def test_span(self):
        self.check_wrong(Span(0, 5), "1", "11")
        self.check_wrong(Span(0, 4), "1", "11")
        self.check_wrong(Span(-7, -3), "10", "101")
        self.check_wrong(Span(0, 2), "1", "11")

    def test_choice(self):
        self.check_wrong(Choice([(name, Truth()) for name in "abc"]), "1", "11")
        self.check_wrong(Choice([(name, Truth()) for name in "abcde"]), "10", "101")
        self.check_wrong(Choice([("a", Span(0, 2)), ("b", Nothing())]), "01", "011")

    def test_letters(self):
        self.check_wrong(Letters("abc"), "11", "111")
        self.check_wrong(Letters("abc"), "100" + "110" + "11", "100" + "110" + "111")
        self.check_wrong(Letters("abcde"), "110", "1101")
        self.check_wrong(Letters("abcde"), "11", "111")

    def test_letters_that_would_tell_a_201st(self):
        self.check_wrong(Letters("a"), "1" * 200, "1" * 201)
        self.check_wrong(Letters("ab"), "10" * 200, "10" * 200 + "1")
        self.check_wrong(Letters("abc"), "110" * 200, "110" * 200 + "1")
        self.assertEqual(Letters("a").read("1" * 200 + "01", 0), ("a" * 200, 201))
        self.assertEqual(Letters("ab").read("11" * 200 + "01", 0), ("b" * 200, 401))

    def test_many_that_would_tell_a_61st(self):
        self.check_wrong(Many(Nothing()), "1" * 60, "1" * 61)
        self.check_wrong(Many(Truth()), "10" * 60, "10" * 60 + "1")
        self.check_wrong(Many(Turned(Truth())), "10" * 60, "10" * 60 + "1")
        self.check_wrong(Many(Many(Nothing())), "1" + "1" * 60, "1" + "1" * 61)
        self.check_wrong(Many(Many(Nothing())), "10" * 60, "10" * 60 + "1")
        self.assertEqual(Many(Nothing()).read("1" * 60 + "01", 0), ([None] * 60, 61))
        self.assertEqual(Many(Truth()).read("11" * 60 + "01", 0), ([True] * 60, 121))

    def test_fraction(self):
        self.check_wrong(Fraction(), "10" + "1" + "1", "10" + "1" + "1" + "1")
        self.check_wrong(Fraction(), "11000" + "1" + "0111" + "0" + "0", "11000" + "1" + "0111" + "0" + "0" + "0")

    def test_fraction_twice_turned(self):
        form = Turned(Record([("a", Turned(Fraction())), ("b", Fraction())]))
        half, third = "10101111", "10101101"
        self.assertEqual(form.read(half + turned_row(third), 0), (((1, 2), (1, 3)), 16))
        self.check_placed(Wrong, 4, form.read, "10111" + "0" * 30, 0)
        self.check_placed(Wrong, 12, form.read, half + turned_row("10111") + "0" * 30, 0)

    def test_what_is_behind_a_wrong_sign_does_not_count(self):
        form = Record([("a", Span(0, 2)), ("b", Span(0, 2))])
        self.check_placed(Wrong, 1, form.read, "11" + "11", 0)
        self.check_placed(Wrong, 3, form.read, "10" + "11", 0)
        self.check_placed(Short, 3, form.read, "10" + "1", 0)


if __name__ == "__main__":
    unittest.main()
