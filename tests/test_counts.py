"""Points 5 to 8: turned rows and the rows of counts, whole numbers and bounded numbers."""

import unittest

from keyrise.counts import count_row, fixed_row, turned_row, whole_row
from keyrise.errors import NoFit

TOP = 2 ** 255 - 2
FAR = 10 ** 199


def turned(row):
    return row.translate({ord("0"): "1", ord("1"): "0"})


def row_by_the_words(n):
    """The row of a count as point 6 words it."""
    m = bin(n + 1)[2:]
    d = bin(len(m))[2:]
    return "1" * (len(d) - 1) + ("" if len(d) == 8 else "0") + d[1:] + m[1:]


def near_powers():
    """Counts one below, at and one above each power of two that is in range, ascending."""
    near = set()
    for k in range(255):
        near.update((2 ** k - 2, 2 ** k - 1, 2 ** k, 2 ** k + 1))
    near.update((TOP - 1, TOP))
    return sorted(n for n in near if 0 <= n <= TOP)


class RowCase(unittest.TestCase):
    def check_ascending(self, rows):
        for one, other in zip(rows, rows[1:]):
            self.assertLess(one, other)
            self.assertFalse(other.startswith(one), (one, other))

    def check_refused(self, ask, *handed):
        with self.assertRaises(NoFit):
            ask(*handed)


class TurnedRows(RowCase):
    def test_a_row(self):
        self.assertEqual(turned_row("0"), "1")
        self.assertEqual(turned_row("1"), "0")
        self.assertEqual(turned_row("0010111"), "1101000")

    def test_the_empty_row(self):
        self.assertEqual(turned_row(""), "")

    def test_turned_twice(self):
        for row in ("", "0", "1", "0110", "1" * 60 + "0" * 61):
            self.assertEqual(turned_row(turned_row(row)), row)

    def test_a_row_of_the_greatest_length(self):
        self.assertEqual(turned_row("01" * 20000), "10" * 20000)


class CountRows(RowCase):
    def test_rows_that_are_written_out(self):
        told = {0: "0", 1: "1000", 2: "1001", 3: "10100", 6: "10111", 7: "11000000", 14: "11000111"}
        for n, row in told.items():
            self.assertEqual(count_row(n), row)

    def test_small_counts_by_the_words(self):
        for n in range(3000):
            self.assertEqual(count_row(n), row_by_the_words(n))

    def test_counts_near_powers_of_two_by_the_words(self):
        for n in near_powers():
            self.assertEqual(count_row(n), row_by_the_words(n))

    def test_where_the_sign_0_goes(self):
        self.assertEqual(count_row(2 ** 127 - 2), "1" * 6 + "0" + "1" * 6 + "1" * 126)
        self.assertEqual(count_row(2 ** 127 - 1), "1" * 7 + "0" * 7 + "0" * 127)

    def test_the_greatest_count(self):
        self.assertEqual(count_row(TOP), "1" * 7 + "1" * 7 + "1" * 254)

    def test_below_the_range(self):
        for n in (-1, -2, -3, -(2 ** 254), -(2 ** 255), -FAR):
            self.check_refused(count_row, n)

    def test_above_the_range(self):
        for n in (TOP + 1, TOP + 2, 2 ** 256, FAR):
            self.check_refused(count_row, n)

    def test_rows_stand_as_the_counts_do(self):
        self.check_ascending([count_row(n) for n in range(3000)])
        self.check_ascending([count_row(n) for n in near_powers()])


class WholeRows(RowCase):
    def test_rows_about_nought(self):
        told = {-4: "001011", -3: "00110", -2: "00111", -1: "01", 0: "10", 1: "11000", 2: "11001", 3: "110100"}
        for n, row in told.items():
            self.assertEqual(whole_row(n), row)

    def test_from_nought_on_by_the_words(self):
        for n in list(range(300)) + near_powers():
            self.assertEqual(whole_row(n), "1" + row_by_the_words(n))

    def test_below_nought_by_the_words(self):
        for n in list(range(300)) + near_powers():
            self.assertEqual(whole_row(-1 - n), "0" + turned(row_by_the_words(n)))

    def test_both_ends(self):
        self.assertEqual(whole_row(TOP), "1" + "1" * 268)
        self.assertEqual(whole_row(1 - 2 ** 255), "0" + "0" * 268)

    def test_beyond_both_ends(self):
        for n in (TOP + 1, TOP + 2, FAR, -(2 ** 255), -(2 ** 255) - 1, -FAR):
            self.check_refused(whole_row, n)

    def test_rows_stand_as_the_numbers_do(self):
        self.check_ascending([whole_row(n) for n in range(-600, 600)])
        near = near_powers()
        self.check_ascending([whole_row(n) for n in [-1 - n for n in reversed(near)] + near])


class FixedRows(RowCase):
    def test_rows_that_are_written_out(self):
        self.assertEqual(fixed_row(1, 5), "001")
        self.assertEqual([fixed_row(n, 5) for n in range(6)], ["000", "001", "010", "011", "100", "101"])
        self.assertEqual([fixed_row(n, 1) for n in range(2)], ["0", "1"])
        self.assertEqual([fixed_row(n, 2) for n in range(3)], ["00", "01", "10"])
        self.assertEqual([fixed_row(n, 4) for n in (0, 4)], ["000", "100"])

    def test_at_most_nought(self):
        self.assertEqual(fixed_row(0, 0), "")

    def test_great_bounds(self):
        most = 2 ** 200 - 1
        self.assertEqual(fixed_row(0, most), "0" * 200)
        self.assertEqual(fixed_row(1, most), "0" * 199 + "1")
        self.assertEqual(fixed_row(most, most), "1" * 200)
        self.assertEqual(fixed_row(2 ** 199, 2 ** 199), "1" + "0" * 199)
        self.assertEqual(fixed_row(2 ** 199 - 1, 2 ** 199), "0" + "1" * 199)

    def test_a_bound_somewhat_beyond_is_not_refused(self):
        self.assertEqual(fixed_row(2, 2 ** 200), "0" * 199 + "10")

    def test_out_of_the_bound(self):
        for most in (0, 1, 5, 7, 2 ** 199, 2 ** 200 - 1):
            for n in (-1, -2, -FAR, most + 1, most + 2, FAR):
                self.check_refused(fixed_row, n, most)

    def test_rows_stand_as_the_numbers_do(self):
        for most in (1, 2, 5, 8, 300):
            rows = [fixed_row(n, most) for n in range(most + 1)]
            self.check_ascending(rows)
            self.assertEqual({len(row) for row in rows}, {len(bin(most)) - 2})


if __name__ == "__main__":
    unittest.main()
