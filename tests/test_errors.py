"""Point 4: each refusal is of a class of its own under RiseError."""

import unittest

from keyrise import errors
from keyrise.compounds import Choice, Many, Maybe, Record, Turned
from keyrise.counts import count_row, fixed_row, read_count, read_fixed, read_whole, whole_row
from keyrise.forms import Fraction, Letters, Nothing, Span, Truth, Whole
from keyrise.fractions import fraction_of, fraction_row, read_fraction
from keyrise.pages import page_of, page_with, page_without, place_in, poured, rows_of
from keyrise.reading import begun_by, read_all
from keyrise.shelves import Shelf
from keyrise.spans import parting_of, span_of
from keyrise.texts import form_of

NAMES = ["NoFit", "Short", "Wrong", "Left", "NoForm", "NoText", "NotAhead", "BadPage", "Twice", "Lacking"]
PLACED = ["Short", "Wrong", "Left"]
FORMS = [
    Nothing(), Truth(), Whole(), Span(0, 5), Fraction(), Letters("abc"), Maybe(Whole()), Many(Whole()),
    Record([("a", Whole())]), Choice([("a", Whole())]), Turned(Whole()),
]


def refusal_of(ask):
    try:
        ask()
    except ValueError as e:
        return e
    return None


class ErrorClasses(unittest.TestCase):
    def test_rise_error_is_a_value_error(self):
        self.assertEqual(errors.RiseError.__bases__, (ValueError,))

    def test_each_stands_straight_under_rise_error(self):
        for name in NAMES:
            with self.subTest(name):
                self.assertEqual(getattr(errors, name).__bases__, (errors.RiseError,))

    def test_none_stands_above_another(self):
        for one in NAMES:
            for other in NAMES:
                with self.subTest(one=one, other=other):
                    under = issubclass(getattr(errors, one), getattr(errors, other))
                    self.assertEqual(under, one == other)

    def test_place_is_set_when_the_error_is_made(self):
        for name in PLACED:
            for place in (0, 7, 40000):
                with self.subTest(name, place=place):
                    self.assertEqual(getattr(errors, name)(place).place, place)

    def test_errors_can_be_raised_and_have_words(self):
        for name in NAMES:
            made = getattr(errors, name)
            error = made(3) if name in PLACED else made("words")
            with self.subTest(name):
                self.assertNotEqual(str(error), "")
                with self.assertRaises(made):
                    raise error


class Refusals(unittest.TestCase):
    def check(self, name, ask):
        error = refusal_of(ask)
        self.assertIsInstance(error, errors.RiseError)
        for other in NAMES:
            self.assertEqual(isinstance(error, getattr(errors, other)), other == name, other)

    def test_no_fit(self):
        self.check("NoFit", lambda: count_row(-1))
        self.check("NoFit", lambda: count_row(2 ** 255 - 1))
        self.check("NoFit", lambda: whole_row(2 ** 255 - 1))
        self.check("NoFit", lambda: whole_row(-(2 ** 255)))
        self.check("NoFit", lambda: fixed_row(-1, 5))
        self.check("NoFit", lambda: fixed_row(6, 5))

    def test_short(self):
        self.check("Short", lambda: read_count("", 0))
        self.check("Short", lambda: read_whole("1", 0))
        self.check("Short", lambda: read_fixed("10", 0, 5))

    def test_wrong(self):
        self.check("Wrong", lambda: read_fixed("110", 0, 5))

    def test_of_fractions(self):
        self.check("NoFit", lambda: fraction_of([]))
        self.check("NoFit", lambda: fraction_of([2, 1]))
        self.check("NoFit", lambda: fraction_row((2, 4)))
        self.check("NoFit", lambda: fraction_row((1, 0)))
        self.check("NoFit", lambda: fraction_row((2 ** 255 - 1, 1)))
        self.check("Short", lambda: read_fraction("10", 0))
        self.check("Wrong", lambda: read_fraction("10111", 0))

    def test_of_forms(self):
        for form in FORMS:
            self.check("NoFit", lambda: form.row("?"))
            self.check("NoFit", lambda: form.row([[[]]]))
            if form.shown() != "nothing":
                self.check("Short", lambda: form.read("", 0))
        self.check("Wrong", lambda: Span(0, 4).read("101", 0))
        self.check("Wrong", lambda: Letters("abc").read("111", 0))
        self.check("Wrong", lambda: Fraction().read("10111", 0))
        self.check("Wrong", lambda: Many(Nothing()).read("1" * 61, 0))
        self.check("Wrong", lambda: Turned(Span(0, 2)).read("00", 0))

    def test_of_the_making_of_forms(self):
        self.check("NoForm", lambda: Span(1, 0))
        self.check("NoForm", lambda: Letters(""))
        self.check("NoForm", lambda: Letters("aa"))
        self.check("NoForm", lambda: Letters("a-"))
        for made in (Record, Choice):
            self.check("NoForm", lambda: made([]))
            self.check("NoForm", lambda: made([("A", Whole())]))
            self.check("NoForm", lambda: made([("a", Whole()), ("a", Whole())]))

    def test_of_texts(self):
        for text in ("", "?", "whole ", "span(1, 0)", "letters()", "record()", "span(00, 1)", "maybe(" * 9):
            self.check("NoText", lambda: form_of(text))

    def test_of_rows_read_whole(self):
        for form in FORMS:
            row = form.row(begun_by(form, ""))
            self.check("Left", lambda: read_all(form, row + "0"))
            self.check("Left", lambda: begun_by(form, row + "1"))
            if row != "":
                self.check("Short", lambda: read_all(form, row[:-1]))
        for ask in (read_all, begun_by):
            self.check("Wrong", lambda: ask(Span(0, 5), "11"))
            self.check("Wrong", lambda: ask(Fraction(), "10111"))
            self.check("Wrong", lambda: ask(Many(Nothing()), "1" * 61))

    def test_of_spans(self):
        form = Record([("a", Whole()), ("b", Whole())])
        self.check("NoFit", lambda: span_of(form, [1, 2], (), ()))
        self.check("NoFit", lambda: span_of(form, ["?"], (), ()))
        self.check("NoFit", lambda: span_of(form, [1], (None,), ()))
        self.check("NoFit", lambda: span_of(form, [1], (), (True,)))
        self.check("NotAhead", lambda: parting_of("1", "0"))
        self.check("NotAhead", lambda: parting_of("1", "1"))

    def test_of_pages(self):
        page = page_of(["0", "1"])
        self.check("NotAhead", lambda: page_of(["1", "0"]))
        self.check("NotAhead", lambda: page_of(["", ""]))
        for bad in ("", "1", "00", page[:-1], page + "0", "1" * 300):
            self.check("BadPage", lambda: rows_of(bad))
            self.check("BadPage", lambda: place_in(bad, "0"))
            self.check("BadPage", lambda: page_with(bad, "0"))
            self.check("BadPage", lambda: page_without(bad, "0"))
            self.check("BadPage", lambda: poured(bad, page))
            self.check("BadPage", lambda: poured(page, bad))
        self.check("Twice", lambda: page_with(page, "0"))
        self.check("Lacking", lambda: page_without(page, "00"))

    def test_of_shelves(self):
        self.check("NoForm", lambda: Shelf(Whole(), 1))
        self.check("NoForm", lambda: Shelf(Whole(), 21))
        for form in FORMS:
            shelf = Shelf(form, 2)
            for ask in (shelf.put, shelf.take, shelf.has):
                self.check("NoFit", lambda: ask("?"))

    def test_the_lesser_place_goes_first(self):
        self.check("Wrong", lambda: read_fixed("11", 0, 5))
        self.check("Short", lambda: read_fixed("1", 0, 5))
        # A wrong sign stands ahead of the place where a row would have ended, or the signs do.
        self.check("Wrong", lambda: read_all(Record([("a", Span(0, 5)), ("b", Truth())]), "11"))
        self.check("Wrong", lambda: read_all(Span(0, 5), "1101"))
        self.check("Left", lambda: read_all(Record([("a", Truth()), ("b", Nothing())]), "111"))


if __name__ == "__main__":
    unittest.main()
