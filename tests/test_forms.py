"""Points 14 and 15 of the forms that hold no form: how they are made, what fits, and the rows."""

import unittest

from cases import BOTTOM, FormCase, TOP, fibonacci_fraction
from keyrise.counts import whole_row
from keyrise.errors import NoFit, NoForm
from keyrise.forms import Form, Fraction, Letters, Nothing, Span, Truth, Whole
from keyrise.fractions import fraction_row

SIXTY = "abcdefghijklmnopqrstuvwxyzABCDEFGHIJKLMNOPQRSTUVWXYZ01234567"
FORMS = [Nothing(), Truth(), Whole(), Span(0, 5), Fraction(), Letters("ab")]


class Making(unittest.TestCase):
    def test_all_stand_straight_under_form(self):
        for form in FORMS:
            self.assertEqual(type(form).__bases__, (Form,))

    def test_span(self):
        for low, high in ((0, 0), (5, 5), (-5, -5), (4, 5), (-1, 0), (-(10 ** 58) + 1, 10 ** 58 - 1)):
            Span(low, high)
        for low, high in ((1, 0), (5, 4), (-4, -5), (0, -1), (10 ** 58 - 1, 1 - 10 ** 58)):
            with self.subTest(low=low, high=high):
                self.assertRaises(NoForm, Span, low, high)

    def test_letters(self):
        for signs in ("a", "z", "A", "Z", "0", "9", "zyx", "aA", SIXTY, SIXTY[1:] + "8"):
            Letters(signs)
        self.assertEqual(len(SIXTY), 60)
        for signs in ("", "aa", "aba", "00", "ab" * 30, SIXTY + "8", SIXTY + "89", SIXTY + "a"):
            with self.subTest(signs):
                self.assertRaises(NoForm, Letters, signs)

    def test_letters_of_other_signs(self):
        for sign in " !\"#$&'()*+,-./:;<=>?@[\\]^_`{|}~\n\u00e9\u00df\u0660\u00b2":
            for signs in (sign, "a" + sign, sign + "a", "ab" + sign + "cd"):
                with self.subTest(signs):
                    self.assertRaises(NoForm, Letters, signs)


class Rows(unittest.TestCase):
    def test_nothing(self):
        self.assertEqual(Nothing().row(None), "")

    def test_truth(self):
        self.assertEqual([Truth().row(value) for value in (False, True)], ["0", "1"])

    def test_whole(self):
        told = {-3: "00110", -2: "00111", -1: "01", 0: "10", 1: "11000", 3: "110100"}
        for n, row in told.items():
            self.assertEqual(Whole().row(n), row)
        for n in (BOTTOM, -(10 ** 70), 10 ** 70, TOP):
            self.assertEqual(Whole().row(n), whole_row(n))

    def test_span(self):
        self.assertEqual([Span(-3, 1).row(n) for n in range(-3, 2)], ["000", "001", "010", "011", "100"])
        self.assertEqual([Span(7, 9).row(n) for n in (7, 8, 9)], ["00", "01", "10"])
        self.assertEqual(Span(4, 4).row(4), "")
        self.assertEqual(Span(-1, 0).row(0), "1")
        far = 10 ** 58 - 1
        self.assertEqual(Span(-far, far).row(far), bin(2 * far)[2:])
        self.assertEqual(Span(-far, far).row(-far), "0" * len(bin(2 * far)[2:]))

    def test_fraction(self):
        self.assertEqual(Fraction().row((3, 1)), "1101000")
        self.assertEqual(Fraction().row((1, 2)), "10101111")
        self.assertEqual(Fraction().row((7, 5)), "11000" + "1" + "0111" + "0" + "1000" + "0")
        for value in ((-7, 5), (TOP, 1), (1, TOP + 1), (355, 113)):
            self.assertEqual(Fraction().row(value), fraction_row(value))

    def test_letters(self):
        form = Letters("bac")
        self.assertEqual(form.row(""), "0")
        self.assertEqual(form.row("b"), "1" + "00" + "0")
        self.assertEqual(form.row("a"), "1" + "01" + "0")
        self.assertEqual(form.row("cabb"), "1" + "10" + "1" + "01" + "1" + "00" + "1" + "00" + "0")
        self.assertEqual(Letters("x").row("xxx"), "1110")
        self.assertEqual(Letters("x").row("x" * 200), "1" * 200 + "0")
        self.assertEqual(Letters(SIXTY).row("7"), "1" + "111011" + "0")
        self.assertEqual(Letters("0Z").row("Z0"), "11100")


class Fits(FormCase):
    def test_nothing(self):
        self.check_fitting(Nothing(), [None])

    def test_truth(self):
        self.check_fitting(Truth(), [True, False])

    def test_whole(self):
        self.check_fitting(Whole(), [0, 1, -1, 2, 5, 6, TOP, BOTTOM])

    def test_span(self):
        self.check_fitting(Span(0, 5), [0, 1, 2, 5])
        self.check_fitting(Span(-1, 0), [-1, 0])
        self.check_fitting(Span(1, 1), [1])
        self.check_fitting(Span(7, 7), [])
        self.check_fitting(Span(-(10 ** 57), 10 ** 57), [0, 1, -1, 2, 5, 6])

    def test_fraction(self):
        self.check_fitting(Fraction(), [
            (0, 1), (1, 2), (-7, 5), (7, 5), (TOP, 1), (BOTTOM, 1), (1, TOP + 1), (-1, TOP + 2),
            fibonacci_fraction(1000)])

    def test_fractions_of_any_number_of_steps(self):
        for steps in (201, 5000):
            top, bottom = fibonacci_fraction(steps)
            self.assertIs(Fraction().fits((top, bottom)), True)
            self.assertIs(Fraction().fits((3 * top, 3 * bottom)), False)
            self.assertEqual(Fraction().row((top, bottom))[:11], "11000" + "1" + "1" + "0" + "0" + "1" + "1")
            self.assertRaises(NoFit, Fraction().row, (3 * top, 3 * bottom))

    def test_letters(self):
        self.check_fitting(Letters("ab"), ["", "a", "b", "ab", "ba", "a" * 200])
        self.check_fitting(Letters("A01"), ["", "A", "0", "1"])
        self.check_fitting(Letters("x"), [""])

    def test_letters_of_200_and_201(self):
        for text in ("a" * 200, "ab" * 100):
            self.assertIs(Letters("ab").fits(text), True)
            self.assertIs(Letters("ab").fits(text + "a"), False)
            self.assertRaises(NoFit, Letters("ab").row, text + "a")


if __name__ == "__main__":
    unittest.main()
