"""Point 13: the rows of fractions, read."""

import unittest

from cases import AROUND, BOTTOM, FormCase, TOP, fibonacci_fraction, rows_up_to
from keyrise.counts import count_row, whole_row
from keyrise.errors import Short, Wrong
from keyrise.fractions import draw_fraction, fraction_of, fraction_row, read_fraction
from keyrise.source import Source

FRACTIONS = [
    (0, 1), (1, 1), (-1, 1), (3, 1), (-40, 1), (1, 2), (-1, 2), (7, 5), (-7, 5), (5, 3), (-5, 3), (355, 113),
    (415, 93), (-415, 93), (TOP, 1), (BOTTOM, 1), (1, TOP + 1), (-1, TOP + 1),
]
MANY_STEPS = [fibonacci_fraction(3), fibonacci_fraction(50), fraction_of([-4] + [2, 9] * 30), fibonacci_fraction(200)]


def turned(row):
    return row.translate({ord("0"): "1", ord("1"): "0"})


def reading_of(signs):
    try:
        return read_fraction(signs, 0)
    except Short as e:
        return ("short", e.place)
    except Wrong as e:
        return ("wrong", e.place)


class Reading(FormCase):
    def test_rows_among_other_signs(self):
        for fraction in FRACTIONS + MANY_STEPS:
            row = fraction_row(fraction)
            for ahead, behind in AROUND:
                told = read_fraction(ahead + row + behind, len(ahead))
                self.check_same(told, (fraction, len(ahead) + len(row)))

    def test_every_cut_is_short(self):
        for fraction in FRACTIONS + MANY_STEPS[:3]:
            row = fraction_row(fraction)
            for ahead in ("", "01"):
                for k in range(len(row)):
                    signs = ahead + row[:k]
                    self.check_placed(Short, len(signs), read_fraction, signs, len(ahead))

    def test_wrong_where_a_step_one_would_end_the_row(self):
        # The second step is turned: its count 0 is "1", and the sign that would end the row is "1".
        self.check_placed(Wrong, 4, read_fraction, "10" + "1" + "1" + "1", 0)
        self.check_placed(Wrong, 4, read_fraction, "01" + "1" + "1" + "1" + "0000", 0)
        self.check_placed(Wrong, 7, read_fraction, "000" + "10" + "1" + "1" + "1", 3)
        self.check_placed(Wrong, 7, read_fraction, "11000" + "1" + "1" + "1", 0)
        # The third one stands as it is: its count 0 is "0", and so is the sign that would end the row.
        self.check_placed(Wrong, 9, read_fraction, "10" + "1" + "0111" + "0" + "0" + "0", 0)
        self.check_placed(Wrong, 6, read_fraction, "10" + "1" + "1" + "0" + "0" + "0" + "111", 0)
        self.check_placed(Wrong, 8, read_fraction, "10" + "1" + "1" + "0" + "0" + "1" + "1" + "1", 0)

    def test_wrong_far_behind(self):
        for steps in (10, 11, 150):
            row = fraction_row(fibonacci_fraction(steps))
            # The last step two is made one: its count 1, four signs, becomes the count 0.
            one = count_row(0) + "0"
            signs = row[:-5] + (turned(one) if steps % 2 == 0 else one)
            self.check_placed(Wrong, len(signs) - 1, read_fraction, signs, 0)
            self.check_placed(Short, len(signs) - 1, read_fraction, signs[:-1], 0)

    def test_a_first_step_one_may_end_the_row(self):
        self.assertEqual(read_fraction("11000" + "0", 0), ((1, 1), 6))
        self.assertEqual(read_fraction("11000" + "0" + "111", 0), ((1, 1), 6))

    def test_a_step_one_may_be_followed(self):
        self.assertEqual(read_fraction("10" + "1" + "1" + "0" + "1000" + "0", 0), ((2, 3), 10))

    def test_short_at_the_end(self):
        self.check_placed(Short, 0, read_fraction, "", 0)
        self.check_placed(Short, 4, read_fraction, "1010", 4)
        self.check_placed(Short, 2, read_fraction, "10", 0)
        self.check_placed(Short, 4, read_fraction, "1011", 0)

    def test_all_short_rows_of_signs(self):
        ends = rows_up_to(3)
        for signs in rows_up_to(11):
            told = reading_of(signs)
            if told[0] == "short":
                self.assertEqual(told[1], len(signs))
                self.assertTrue(self.some_row_begins(signs, ends), signs)
            elif told[0] == "wrong":
                self.assertEqual(reading_of(signs[:told[1]]), ("short", told[1]))
                self.assertEqual(reading_of(signs[:told[1] + 1]), told)
            else:
                self.assertEqual(fraction_row(told[0]), signs[:told[1]])

    def some_row_begins(self, signs, ends):
        """Whether a fraction's row is found that begins with the signs."""
        for end in ends:
            for far in ("0" * 600, "1" * 600):
                told = reading_of(signs + end + far)
                if isinstance(told[0], tuple) and told[1] > len(signs):
                    return fraction_row(told[0]).startswith(signs)
        return False

    def test_no_row_begins_with_what_is_wrong(self):
        rows = [fraction_row((top, bottom)) for bottom in range(1, 12) for top in range(-30, 31)
                if bottom == 1 or all(top % k or bottom % k for k in range(2, bottom + 1))]
        for signs in rows_up_to(9):
            told = reading_of(signs)
            if told[0] == "wrong":
                self.assertFalse(any(row.startswith(signs[:told[1] + 1]) for row in rows), signs)

    def test_drawn_one_behind_the_other(self):
        fractions = FRACTIONS + MANY_STEPS
        source = Source("".join(fraction_row(fraction) for fraction in fractions), 0)
        self.assertEqual([draw_fraction(source) for fraction in fractions], fractions)

    def test_the_row_of_a_whole_number_goes_ahead(self):
        for n in range(-20, 20):
            self.assertEqual(read_fraction(whole_row(n) + "0", 0), ((n, 1), len(whole_row(n)) + 1))


if __name__ == "__main__":
    unittest.main()
