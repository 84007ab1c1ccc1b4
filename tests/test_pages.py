"""Points 24 to 26: pages of rows, their reading, and what is put into them and taken out."""

import itertools
import unittest

from cases import rows_of_length, rows_up_to
from keyrise.counts import count_row
from keyrise.errors import BadPage, Lacking, NotAhead, Twice
from keyrise.pages import page_of, page_with, page_without, place_in, poured, rows_of

# The rows of the first counts, by point 6.
COUNTS = ["0", "1000", "1001", "10100", "10101", "10110", "10111", "11000000"]
# Pages written out by hand: the count of rows, then of each row the count shared, the count of others, the others.
BY_HAND = [
    ([], "0"),
    ([""], "1000" + "0" + "0"),
    (["0"], "1000" + "0" + "1000" + "0"),
    (["1"], "1000" + "0" + "1000" + "1"),
    (["01"], "1000" + "0" + "1001" + "01"),
    (["", "0"], "1001" + "0" + "0" + "0" + "1000" + "0"),
    (["", "1"], "1001" + "0" + "0" + "0" + "1000" + "1"),
    (["0", "1"], "1001" + "0" + "1000" + "0" + "0" + "1000" + "1"),
    (["0", "00"], "1001" + "0" + "1000" + "0" + "1000" + "1000" + "0"),
    (["0", "01"], "1001" + "0" + "1000" + "0" + "1000" + "1000" + "1"),
    (["01", "0100", "011"],
     "10100" + "0" + "1001" + "01" + "1001" + "1001" + "00" + "1001" + "1000" + "1"),
    (["", "0", "00", "000"],
     "10101" + "0" + "0" + "0" + "1000" + "0" + "1000" + "1000" + "0" + "1001" + "1000" + "0"),
    (["00110", "00111", "1"],
     "10100" + "0" + "10110" + "00110" + "10101" + "1000" + "1" + "0" + "1000" + "1"),
    (["0000000", "1111111"],
     "1001" + "0" + "11000000" + "0000000" + "0" + "11000000" + "1111111"),
]
MANY_ROWS = sorted(rows_up_to(5))
LONG_ROWS = ["", "0" * 61, "0" * 61 + "1", "0" * 500, "0" * 300 + "1" * 300, "01" * 4000, "1" * 1000]
PAGES = [page for rows, page in BY_HAND]
# What is no page: nothing, cuts, a sign more, rows that don't ascend, and shares that aren't what is shared.
BAD_PAGES = [
    "", "1", "10", "1000", "00", "01", "10000", "100000" + "0", "100000" + "1",
    "1000" + "1000" + "0",
    "1000" + "1000" + "1000" + "0",
    "1001" + "0" + "0" + "0" + "0",
    "1001" + "0" + "1000" + "0" + "0" + "1000" + "0",
    "1001" + "0" + "1000" + "1" + "0" + "1000" + "0",
    "1001" + "0" + "1000" + "0" + "0" + "1001" + "01",
    "1001" + "0" + "1000" + "0" + "1000" + "0",
    "1001" + "0" + "1000" + "0" + "1001" + "1000" + "1",
]


def written(rows):
    """The page by the words of point 24."""
    told = COUNTS[len(rows)]
    ahead = ""
    for row in rows:
        shared = max(k for k in range(len(row) + 1) if ahead.startswith(row[:k]))
        told = told + COUNTS[shared] + COUNTS[len(row) - shared] + row[shared:]
        ahead = row
    return told


def lists_whose_pages_are_short(longest):
    """Every ascending list of rows whose page has at most so many signs."""
    rows = sorted(rows_up_to(5))
    told = [[]]
    for one in told:
        for row in rows:
            # A page only grows as rows come behind its last one.
            if (not one or one[-1] < row) and len(written(one + [row])) <= longest:
                told.append(one + [row])
    return told


class PageOf(unittest.TestCase):
    def test_by_hand(self):
        for rows, page in BY_HAND:
            self.assertEqual(page_of(rows), page)
            self.assertEqual(page_of(rows), written(rows))

    def test_every_list_of_short_rows(self):
        rows = sorted(rows_up_to(2))
        for chosen in itertools.product([False, True], repeat=len(rows)):
            some = [row for row, there in zip(rows, chosen) if there]
            self.assertEqual(page_of(some), written(some))

    def test_the_list_handed_in_stays(self):
        rows = ["0", "01", "1"]
        page_of(rows)
        self.assertEqual(rows, ["0", "01", "1"])

    def test_forty_rows_of_sixty_signs(self):
        rows = [row + "01" * 27 for row in rows_of_length(6)[:40]]
        self.assertEqual(page_of(rows)[:len(count_row(40)) + 1], count_row(40) + "0")
        self.assertEqual(rows_of(page_of(rows)), rows)

    def test_rows_that_do_not_ascend(self):
        rows = ["", "0", "00", "01", "1", "10"]
        for k in range(len(rows)):
            twice = rows[:k + 1] + rows[k:]
            self.assertRaises(NotAhead, page_of, twice)
        for k, m in itertools.combinations(range(len(rows)), 2):
            exchanged = list(rows)
            exchanged[k], exchanged[m] = rows[m], rows[k]
            self.assertRaises(NotAhead, page_of, exchanged)
        self.assertRaises(NotAhead, page_of, ["0", "1", "0"])


class RowsOf(unittest.TestCase):
    def check_bad(self, page):
        self.assertRaises(BadPage, rows_of, page)

    def test_by_hand(self):
        for rows, page in BY_HAND:
            self.assertEqual(rows_of(page), rows)

    def test_told_anew_each_time(self):
        for rows, page in BY_HAND:
            told = rows_of(page)
            self.assertIsInstance(told, list)
            told.append("x")
            told[0] = "y"
            self.assertEqual(rows_of(page), rows)

    def test_bad_pages(self):
        for page in BAD_PAGES:
            with self.subTest(page):
                self.check_bad(page)

    def test_every_cut_and_a_sign_more(self):
        for page in PAGES + [page_of(MANY_ROWS[::3])]:
            for k in range(len(page)):
                self.check_bad(page[:k])
            self.check_bad(page + "0")
            self.check_bad(page + "1")
            self.check_bad(page + page)

    def test_all_rows_of_signs(self):
        longest = 14
        lists = {written(rows): rows for rows in lists_whose_pages_are_short(longest)}
        self.assertGreater(len(lists), 20)
        for page in rows_up_to(longest):
            if page in lists:
                self.assertEqual(rows_of(page), lists[page])
            else:
                self.check_bad(page)

    def test_a_share_told_too_small(self):
        rows = ["0101", "0110"]
        for shared in range(5):
            page = COUNTS[2] + "0" + COUNTS[4] + "0101" + COUNTS[shared] + COUNTS[4 - shared] + "0110"[shared:]
            if shared == 2:
                self.assertEqual(rows_of(page), rows)
            else:
                self.check_bad(page)

    def test_a_share_of_a_row_that_is_gone_on_with(self):
        for shared in range(4):
            page = COUNTS[2] + "0" + COUNTS[2] + "01" + COUNTS[shared] + COUNTS[4 - shared] + "0101"[shared:]
            if shared == 2:
                self.assertEqual(rows_of(page), ["01", "0101"])
            else:
                self.check_bad(page)

    def test_a_share_greater_than_the_row_ahead(self):
        for shared in (3, 4, 5, 100, 2 ** 60, 2 ** 255 - 2):
            for rest in ("0", "1", "11"):
                self.check_bad(COUNTS[2] + "0" + COUNTS[2] + "01" + count_row(shared) + COUNTS[len(rest)] + rest)
        self.check_bad(COUNTS[1] + count_row(1) + COUNTS[1] + "1")
        self.check_bad(COUNTS[2] + "0" + "0" + count_row(1) + COUNTS[1] + "1")

    def test_rows_that_do_not_ascend(self):
        # The row again, a beginning of it, one with 0 where the other has 1.
        head = COUNTS[2] + "0" + COUNTS[3] + "011"
        for shared, rest in ((3, ""), (2, ""), (0, ""), (2, "0"), (1, "0"), (1, "01"), (0, "0")):
            self.check_bad(head + COUNTS[shared] + COUNTS[len(rest)] + rest)
        self.assertEqual(rows_of(head + COUNTS[3] + COUNTS[1] + "0"), ["011", "0110"])
        self.assertEqual(rows_of(head + COUNTS[0] + COUNTS[1] + "1"), ["011", "1"])

    def test_counts_greater_than_what_is_left(self):
        for great in (2, 3, 100, 2 ** 20, 2 ** 64, 2 ** 200, 2 ** 255 - 2):
            self.check_bad(count_row(great))
            self.check_bad(count_row(great) + "0" + COUNTS[1] + "1")
            self.check_bad(count_row(great) + "00" + "0" * 30000)
            self.check_bad(COUNTS[1] + "0" + count_row(great) + "1")
            self.check_bad(COUNTS[1] + "0" + count_row(great) + "1" * 39000)
            self.check_bad(COUNTS[2] + "00" + "0" + count_row(great) + "1")
            self.check_bad(COUNTS[2] + "00" + count_row(great) + count_row(great) + "1")

    def test_more_than_forty_rows(self):
        self.assertGreater(len(MANY_ROWS), 60)
        self.assertEqual(rows_of(page_of(MANY_ROWS)), MANY_ROWS)
        rows = [row + "0110" for row in rows_of_length(9)]
        self.assertEqual(rows_of(page_of(rows)), rows)

    def test_rows_of_more_than_sixty_signs(self):
        rows = sorted(LONG_ROWS)
        page = page_of(rows)
        self.assertEqual(rows_of(page), rows)
        self.assertTrue(page.startswith(COUNTS[7] + "0" + "0" + "0" + count_row(61) + "0" * 61))
        for row in rows:
            self.assertEqual(page_of([row]), COUNTS[1] + "0" + count_row(len(row)) + row)
            self.assertEqual(rows_of(page_of([row])), [row])


class OnPages(unittest.TestCase):
    def test_place_in(self):
        self.assertEqual(place_in("0", ""), (0, False))
        self.assertEqual(place_in("0", "01"), (0, False))
        page = page_of(["0", "01", "1"])
        for row, told in (("", (0, False)), ("0", (0, True)), ("00", (1, False)), ("01", (1, True)),
                          ("010", (2, False)), ("011", (2, False)), ("1", (2, True)), ("10", (3, False)),
                          ("11", (3, False))):
            self.assertEqual(place_in(page, row), told)
            self.assertIs(place_in(page, row)[1], told[1])
            self.assertIsInstance(place_in(page, row), tuple)

    def test_place_in_by_every_row(self):
        for rows, page in BY_HAND + [(LONG_ROWS[:1], page_of([""])), (sorted(LONG_ROWS), page_of(sorted(LONG_ROWS)))]:
            for row in rows_up_to(4) + LONG_ROWS:
                ahead = sum(1 for other in rows if other < row)
                self.assertEqual(place_in(page, row), (ahead, row in rows))

    def test_with_and_without_at_each_place(self):
        rows = sorted(rows_up_to(3))
        whole = page_of(rows)
        for k, row in enumerate(rows):
            fewer = page_of(rows[:k] + rows[k + 1:])
            self.assertEqual(page_without(whole, row), fewer)
            self.assertEqual(page_with(fewer, row), whole)

    def test_from_no_row_to_more_than_forty_and_back(self):
        rows = MANY_ROWS
        order = [rows[k * 23 % len(rows)] for k in range(len(rows))]
        self.assertEqual(sorted(order), rows)
        page = "0"
        for k, row in enumerate(order):
            page = page_with(page, row)
            self.assertEqual(page, page_of(sorted(order[:k + 1])))
        for k, row in enumerate(order):
            page = page_without(page, row)
            self.assertEqual(page, page_of(sorted(order[k + 1:])))
        self.assertEqual(page, "0")

    def test_long_rows(self):
        page = "0"
        for row in LONG_ROWS:
            page = page_with(page, row)
        self.assertEqual(rows_of(page), sorted(LONG_ROWS))
        self.assertEqual(rows_of(page_without(page, "0" * 61)), sorted(LONG_ROWS[:1] + LONG_ROWS[2:]))

    def test_twice(self):
        for rows, page in BY_HAND:
            for row in rows:
                self.assertRaises(Twice, page_with, page, row)
            for row in rows_up_to(3):
                if row not in rows:
                    self.assertEqual(rows_of(page_with(page, row)), sorted(rows + [row]))

    def test_lacking(self):
        for rows, page in BY_HAND:
            for row in rows_up_to(3):
                if row not in rows:
                    self.assertRaises(Lacking, page_without, page, row)
        self.assertRaises(Lacking, page_without, "0", "")

    def test_poured(self):
        rows = sorted(rows_up_to(3))
        parts = [[], rows, rows[::2], rows[1::2], rows[:5], rows[5:], rows[3:9], [""], ["111"], rows[2:3]]
        for one, other in itertools.product(parts, repeat=2):
            both = sorted(set(one) | set(other))
            self.assertEqual(poured(page_of(one), page_of(other)), page_of(both))

    def test_poured_of_many_rows(self):
        rows = MANY_ROWS
        self.assertEqual(poured(page_of(rows[:40]), page_of(rows[20:])), page_of(rows))
        self.assertEqual(poured(page_of(rows[20:]), page_of(rows[:40])), page_of(rows))
        self.assertEqual(poured(page_of(sorted(LONG_ROWS)), "0"), page_of(sorted(LONG_ROWS)))

    def test_bad_pages_go_first(self):
        good = page_of(["0", "1"])
        bad = BAD_PAGES + [good[:-1], good + "1", count_row(2 ** 255 - 2), count_row(2 ** 60) + good]
        for page in bad:
            # Of the rows that are asked for some would be there and some lacking, were it a page.
            for row in ("", "0", "1", "01", "11"):
                self.assertRaises(BadPage, place_in, page, row)
                self.assertRaises(BadPage, page_with, page, row)
                self.assertRaises(BadPage, page_without, page, row)
            for other in (good, "0", page, ""):
                self.assertRaises(BadPage, poured, page, other)
                self.assertRaises(BadPage, poured, other, page)


if __name__ == "__main__":
    unittest.main()
