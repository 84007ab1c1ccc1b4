"""Points 21 to 23: the row behind all that begin alike, spans of a record's rows, and what parts two rows."""

import itertools
import unittest

from cases import ANYTHING, ALL_FORMS, FormCase, TOP, fibonacci_fraction, rows_up_to, same
from keyrise.compounds import Choice, Many, Maybe, Record, Turned
from keyrise.errors import NoFit, NotAhead
from keyrise.forms import Fraction, Letters, Nothing, Span, Truth, Whole
from keyrise.spans import behind_all, parting_of, shared_signs, span_of


class BehindAll(unittest.TestCase):
    def test_examples(self):
        self.assertEqual(behind_all("0"), "1")
        self.assertEqual(behind_all("00"), "01")
        self.assertEqual(behind_all("10"), "11")
        self.assertEqual(behind_all("01"), "1")
        self.assertEqual(behind_all("0111"), "1")
        self.assertEqual(behind_all("110011"), "1101")
        self.assertEqual(behind_all("1010"), "1011")
        self.assertEqual(behind_all("0" * 40000), "0" * 39999 + "1")
        self.assertEqual(behind_all("0" + "1" * 39999), "1")

    def test_rows_without_a_nought(self):
        for k in (0, 1, 2, 7, 40000):
            self.assertIsNone(behind_all("1" * k))

    def test_all_rows(self):
        for row in rows_up_to(6):
            told = behind_all(row)
            if "0" not in row:
                self.assertIsNone(told)
                continue
            for more in rows_up_to(5):
                self.assertLess(row + more, told)
            for lesser in rows_up_to(7):
                if lesser < told:
                    # The rows that begin with the row rise as ones come behind it.
                    self.assertGreaterEqual(row + "1" * 10, lesser)


RECORDS = [
    ([Truth()], [[False, True]]),
    ([Nothing()], [[None]]),
    ([Span(0, 2), Truth(), Span(-1, 3)], [[0, 1, 2], [False, True], [-1, 0, 1, 2, 3]]),
    ([Turned(Span(0, 2)), Span(0, 2), Turned(Truth())], [[0, 1, 2], [0, 1, 2], [False, True]]),
    ([Nothing(), Truth(), Nothing(), Turned(Maybe(Truth()))],
     [[None], [False, True], [None], [(), (False,), (True,)]]),
    ([Turned(Letters("ab")), Letters("ba")], [["", "a", "aa", "ab", "b", "ba"], ["", "b", "bb", "ba", "a", "ab"]]),
    ([Many(Truth()), Turned(Many(Span(0, 2)))],
     [[[], [False], [True], [True, False], [True] * 60], [[], [0], [0, 2], [2], [2, 2]]]),
    ([Fraction(), Turned(Fraction())], [[(-1, 2), (0, 1), (1, 3), (1, 2), (2, 1)], [(1, 2), (3, 5), (7, 5), (3, 1)]]),
    ([Choice([("b", Truth()), ("a", Nothing())]), Whole()],
     [[("b", False), ("b", True), ("a", None)], [-9, -1, 0, 1, 9, TOP]]),
    ([Record([("x", Truth()), ("y", Turned(Truth()))]), Span(7, 7), Whole()],
     [list(itertools.product([False, True], repeat=2)), [7], [-2, 0, 5]]),
]


def record_of(forms):
    return Record([("p" + "abcdefghijklmnopqrstuvwxyz"[k], form) for k, form in enumerate(forms)])


def wanted(forms, first, low, high, value):
    """Whether a value lies in the span, by the words of point 22 and by the parts' own orders alone."""
    place = len(first)
    if not same(list(value[:place]), first):
        return False
    if low and forms[place].ahead(value[place], low[0]):
        return False
    return not high or forms[place].ahead(value[place], high[0])


def spans_asked(lists):
    """Every first, low and high that the values of the parts make."""
    for place in range(len(lists)):
        ends = [()] + [(value,) for value in lists[place]]
        for first in itertools.product(*lists[:place]):
            for low, high in itertools.product(ends, ends):
                yield (list(first), low, high)


class SpanOf(FormCase):
    def test_values_in_and_out(self):
        for forms, lists in RECORDS:
            form = record_of(forms)
            rows = [(value, form.row(value)) for value in itertools.product(*lists)]
            for first, low, high in spans_asked(lists):
                start, end = span_of(form, first, low, high)
                for value, row in rows:
                    inside = start <= row and (end is None or row < end)
                    self.assertEqual(inside, wanted(forms, first, low, high, value), (first, low, high, value))

    def test_the_rows_that_are_told(self):
        form = record_of([Span(0, 5), Turned(Span(0, 5)), Truth()])
        self.assertEqual(span_of(form, [], (), ()), ("", None))
        self.assertEqual(span_of(form, [], (1,), ()), ("001", None))
        self.assertEqual(span_of(form, [], (), (1,)), ("", "001"))
        self.assertEqual(span_of(form, [], (1,), (4,)), ("001", "100"))
        self.assertEqual(span_of(form, [], (4,), (1,)), ("100", "001"))
        self.assertEqual(span_of(form, [1], (), ()), ("001", "01"))
        self.assertEqual(span_of(form, [1], (1,), ()), ("001110", "01"))
        self.assertEqual(span_of(form, [1], (), (1,)), ("001", "001110"))
        self.assertEqual(span_of(form, [1, 0], (False,), (True,)), ("0011110", "0011111"))
        self.assertEqual(span_of(form, [1, 0], (), ()), ("001111", "01"))

    def test_what_is_told_is_a_tuple_of_rows(self):
        told = span_of(record_of([Truth(), Truth()]), [True], (), (True,))
        self.check_same(told, ("1", "11"))

    def test_no_end_where_the_first_rows_have_no_nought(self):
        form = record_of([Truth(), Turned(Truth()), Many(Nothing())])
        self.assertEqual(span_of(form, [True], (), ()), ("1", None))
        self.assertEqual(span_of(form, [True, False], (), ()), ("11", None))
        self.assertEqual(span_of(form, [True, False], ([None],), ()), ("1110", None))
        self.assertEqual(span_of(form, [True, False], (), ([None],)), ("11", "1110"))
        self.assertEqual(span_of(form, [True, True], (), ()), ("10", "11"))
        form = record_of([Nothing(), Span(3, 3), Truth()])
        self.assertEqual(span_of(form, [None], (), ()), ("", None))
        self.assertEqual(span_of(form, [None, 3], (), ()), ("", None))
        self.assertEqual(span_of(form, [None], (3,), (3,)), ("", ""))

    def test_the_list_handed_in_stays(self):
        form = record_of([Many(Truth()), Many(Truth()), Truth()])
        first = [[True], []]
        low, high = (True,), ()
        span_of(form, first, low, high)
        self.check_same(first, [[True], []])
        self.check_same((low, high), ((True,), ()))
        # What the asker does to it later changes nothing.
        start = span_of(form, first, low, high)[0]
        first[0].append(False)
        self.assertNotEqual(span_of(form, first, low, high)[0], start)
        self.assertEqual(span_of(form, [[True], []], low, high)[0], start)

    def test_as_many_first_values_as_parts_or_more(self):
        self.assertRaises(NoFit, span_of, record_of([Truth()]), [True], (), ())
        self.assertRaises(NoFit, span_of, record_of([Truth()]), [True, True], (), ())
        form = record_of([Truth(), Truth()])
        self.assertRaises(NoFit, span_of, form, [True, True], (), ())
        self.assertRaises(NoFit, span_of, form, [True, True], (True,), (True,))
        self.assertRaises(NoFit, span_of, form, [True] * 3, (), ())
        self.assertRaises(NoFit, span_of, form, [True] * 64, (), ())
        form = record_of([Nothing()] * 20)
        self.assertEqual(span_of(form, [None] * 19, (None,), (None,)), ("", ""))
        self.assertRaises(NoFit, span_of, form, [None] * 20, (), ())

    def test_values_of_anything(self):
        parts = [Span(0, 5), Many(Truth()), Fraction(), Letters("ab"), Maybe(Whole()), Nothing()]
        good = [1, [True], (1, 2), "ab", (), None]
        form = record_of(parts)
        for place in range(len(parts)):
            for value in ANYTHING:
                asks = [(good[:place], (value,), ()), (good[:place], (), (value,))]
                if place + 1 < len(parts):
                    asks.append((good[:place] + [value] + good[place + 1:-1], (), ()))
                    asks.append((good[:place] + [value], (good[place + 1],), (good[place + 1],)))
                for first, low, high in asks:
                    if parts[place].fits(value):
                        self.assertIsInstance(span_of(form, first, low, high), tuple)
                    else:
                        self.assertRaises(NoFit, span_of, form, first, low, high)

    def test_fractions_of_many_steps(self):
        value = fibonacci_fraction(1000)
        form = record_of([Fraction(), Fraction()])
        row = Fraction().row(value)
        self.assertEqual(span_of(form, [value], (value,), ()), (row + row, behind_all(row)))


def shared_by_hand(one, other):
    return max(k for k in range(len(one) + 1) if other.startswith(one[:k]))


class Partings(unittest.TestCase):
    def test_shared_signs(self):
        self.assertEqual(shared_signs("", ""), 0)
        self.assertEqual(shared_signs("", "010"), 0)
        self.assertEqual(shared_signs("010", ""), 0)
        self.assertEqual(shared_signs("0", "1"), 0)
        self.assertEqual(shared_signs("0101", "0110"), 2)
        self.assertEqual(shared_signs("0110", "0111"), 3)
        self.assertEqual(shared_signs("01", "0110"), 2)
        self.assertEqual(shared_signs("0110", "01"), 2)
        self.assertEqual(shared_signs("0110", "0110"), 4)
        self.assertEqual(shared_signs("1" * 40000, "1" * 39999 + "0"), 39999)

    def test_parting_of(self):
        self.assertEqual(parting_of("0", "1"), "1")
        self.assertEqual(parting_of("0111", "1000"), "1")
        self.assertEqual(parting_of("0101", "0110"), "011")
        self.assertEqual(parting_of("0110", "0111"), "0111")
        self.assertEqual(parting_of("01", "0100"), "010")
        self.assertEqual(parting_of("01", "0111"), "011")
        self.assertEqual(parting_of("", "0"), "0")
        self.assertEqual(parting_of("", "11"), "1")

    def test_not_ahead(self):
        for one, other in (("", ""), ("0", ""), ("1", "0"), ("01", "01"), ("011", "01"), ("10", "0111"), ("1", "1")):
            self.assertRaises(NotAhead, parting_of, one, other)

    def test_all_rows_two_by_two(self):
        rows = rows_up_to(5)
        for one in rows:
            for other in rows:
                self.assertEqual(shared_signs(one, other), shared_by_hand(one, other))
                if not one < other:
                    self.assertRaises(NotAhead, parting_of, one, other)
                    continue
                told = parting_of(one, other)
                self.assertEqual(told, other[:shared_by_hand(one, other) + 1])
                self.assertTrue(one < told <= other)
                self.assertFalse([row for row in rows_up_to(len(told) - 1) if one < row <= other])

    def test_rows_of_neighbouring_values(self):
        for text, form, values in ALL_FORMS:
            rows = [form.row(value) for value in values]
            for one, other in zip(rows, rows[1:]):
                told = parting_of(one, other)
                self.assertTrue(one < told <= other)
                self.assertTrue(other.startswith(told))
                self.assertFalse(one < told[:-1])


if __name__ == "__main__":
    unittest.main()
