"""Point 9: the rows of counts, whole numbers and bounded numbers, read."""

import unittest

from keyrise.counts import count_row, draw_whole, fixed_row, read_count, read_fixed, read_whole, whole_row
from keyrise.errors import Short, Wrong
from keyrise.source import Source

TOP = 2 ** 255 - 2
POWERS = (30, 62, 63, 64, 126, 127, 128, 254)
COUNTS = list(range(70)) + [2 ** k + more for k in POWERS for more in (-2, -1, 0, 1)] + [TOP]
WHOLES = COUNTS + [-1 - n for n in COUNTS]
BOUNDS = [1, 2, 3, 4, 5, 6, 7, 8, 21, 100]
GREAT = [2 ** 199, 2 ** 200 - 1, 10 ** 58]
AROUND = [("", ""), ("", "0"), ("", "1"), ("0", ""), ("1", ""), ("0110", "1001"), ("111", "000"), ("000", "111")]


def fixed_pairs():
    """Bounded numbers with their bounds."""
    pairs = [(n, most) for most in BOUNDS for n in range(most + 1)]
    for most in GREAT:
        pairs.extend((n, most) for n in (0, 1, most // 3, most - 1, most))
    return pairs


class ReadCase(unittest.TestCase):
    def check_placed(self, made, ask, *handed):
        with self.assertRaises(made[0]) as caught:
            ask(*handed)
        self.assertEqual(caught.exception.place, made[1])

    def check_read(self, ask, n, row, *more):
        for ahead, behind in AROUND:
            signs = ahead + row + behind
            self.assertEqual(ask(signs, len(ahead), *more), (n, len(ahead) + len(row)))

    def check_cuts(self, ask, row, *more):
        for ahead in ("", "01"):
            for k in range(len(row)):
                signs = ahead + row[:k]
                self.check_placed((Short, len(signs)), ask, signs, len(ahead), *more)


class ReadCounts(ReadCase):
    def test_rows_among_other_signs(self):
        for n in COUNTS:
            self.check_read(read_count, n, count_row(n))

    def test_rows_that_are_written_out(self):
        self.assertEqual(read_count("0", 0), (0, 1))
        self.assertEqual(read_count("1000", 0), (1, 4))
        self.assertEqual(read_count("1001", 0), (2, 4))
        self.assertEqual(read_count("10100", 0), (3, 5))
        self.assertEqual(read_count("1" * 300, 10), (TOP, 278))

    def test_a_tuple_is_told(self):
        self.assertIsInstance(read_count("0", 0), tuple)

    def test_every_cut_is_short(self):
        for n in COUNTS:
            self.check_cuts(read_count, count_row(n))

    def test_short_at_the_end(self):
        self.check_placed((Short, 0), read_count, "", 0)
        self.check_placed((Short, 3), read_count, "000", 3)

    def test_no_sign_is_wrong(self):
        for k in range(2 ** 12):
            signs = bin(2 ** 12 + k)[3:]
            try:
                n, place = read_count(signs, 0)
            except Short as e:
                self.assertEqual(e.place, 12)
            else:
                self.assertEqual(count_row(n), signs[:place])

    def test_rows_one_behind_the_other(self):
        signs = "".join(count_row(n) for n in COUNTS)
        place, told = 0, []
        while place < len(signs):
            n, place = read_count(signs, place)
            told.append(n)
        self.assertEqual(told, COUNTS)


class ReadWholes(ReadCase):
    def test_rows_among_other_signs(self):
        for n in WHOLES:
            self.check_read(read_whole, n, whole_row(n))

    def test_rows_that_are_written_out(self):
        self.assertEqual(read_whole("10", 0), (0, 2))
        self.assertEqual(read_whole("01", 0), (-1, 2))
        self.assertEqual(read_whole("00111", 0), (-2, 5))
        self.assertEqual(read_whole("0" * 300, 10), (1 - 2 ** 255, 279))
        self.assertEqual(read_whole("1" * 300, 10), (TOP, 279))

    def test_a_tuple_is_told(self):
        self.assertIsInstance(read_whole("01", 0), tuple)

    def test_every_cut_is_short(self):
        for n in WHOLES:
            self.check_cuts(read_whole, whole_row(n))

    def test_short_at_the_end(self):
        self.check_placed((Short, 0), read_whole, "", 0)
        self.check_placed((Short, 4), read_whole, "1010", 4)

    def test_drawn_one_behind_the_other(self):
        source = Source("".join(whole_row(n) for n in WHOLES), 0)
        self.assertEqual([draw_whole(source) for n in WHOLES], WHOLES)


class ReadFixed(ReadCase):
    def test_rows_among_other_signs(self):
        for n, most in fixed_pairs():
            self.check_read(read_fixed, n, fixed_row(n, most), most)

    def test_at_most_nought_nothing_is_read(self):
        self.check_read(read_fixed, 0, "", 0)
        self.assertEqual(read_fixed("", 0, 0), (0, 0))
        self.assertEqual(read_fixed("101", 3, 0), (0, 3))

    def test_a_tuple_is_told(self):
        self.assertIsInstance(read_fixed("1", 0, 1), tuple)

    def test_every_cut_is_short(self):
        for n, most in fixed_pairs():
            self.check_cuts(read_fixed, fixed_row(n, most), most)

    def test_short_at_the_end(self):
        self.check_placed((Short, 0), read_fixed, "", 0, 1)
        self.check_placed((Short, 3), read_fixed, "000", 3, 5)

    def test_wrong_at_the_first_sign_that_is_too_much(self):
        self.check_placed((Wrong, 1), read_fixed, "110", 0, 5)
        self.check_placed((Wrong, 1), read_fixed, "111", 0, 5)
        self.check_placed((Wrong, 2), read_fixed, "101", 0, 4)
        self.check_placed((Wrong, 1), read_fixed, "11", 0, 2)
        self.check_placed((Wrong, 4), read_fixed, "000110111", 3, 5)
        self.check_placed((Wrong, 199), read_fixed, "1" + "0" * 198 + "1", 0, 2 ** 199)

    def test_wrong_ahead_of_short(self):
        self.check_placed((Wrong, 1), read_fixed, "11", 0, 5)
        self.check_placed((Wrong, 4), read_fixed, "00011", 3, 4)
        self.check_placed((Wrong, 1), read_fixed, "11", 0, 2 ** 199)

    def test_short_where_nothing_is_wrong_yet(self):
        self.check_placed((Short, 1), read_fixed, "1", 0, 5)
        self.check_placed((Short, 2), read_fixed, "10", 0, 5)
        self.check_placed((Short, 2), read_fixed, "01", 0, 5)

    def test_every_row_of_signs_by_the_rows_there_are(self):
        for most in range(1, 20):
            rows = [fixed_row(n, most) for n in range(most + 1)]
            for length in range(7):
                for k in range(2 ** length):
                    self.check_by_rows(bin(2 ** length + k)[3:], most, rows)

    def check_by_rows(self, signs, most, rows):
        for n, row in enumerate(rows):
            if signs.startswith(row):
                self.assertEqual(read_fixed(signs, 0, most), (n, len(row)))
                return
        for k in range(len(signs)):
            if not any(row.startswith(signs[:k + 1]) for row in rows):
                self.check_placed((Wrong, k), read_fixed, signs, 0, most)
                return
        self.check_placed((Short, len(signs)), read_fixed, signs, 0, most)


if __name__ == "__main__":
    unittest.main()
