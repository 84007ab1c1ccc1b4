"""Points 10 to 12: fractions, their steps and their rows."""

import fractions
import unittest

from cases import BOTTOM, TOP, fibonacci_fraction, same
from keyrise.counts import count_row, whole_row
from keyrise.errors import NoFit
from keyrise.fractions import fraction_of, fraction_row, steps_of

STEPS = [
    ((7, 5), [1, 2, 2]),
    ((-7, 5), [-2, 1, 1, 2]),
    ((3, 1), [3]),
    ((0, 1), [0]),
    ((1, 1), [1]),
    ((-1, 1), [-1]),
    ((1, 2), [0, 2]),
    ((-1, 2), [-1, 2]),
    ((-3, 2), [-2, 2]),
    ((-2, 3), [-1, 3]),
    ((-1, 3), [-1, 1, 2]),
    ((5, 3), [1, 1, 2]),
    ((355, 113), [3, 7, 16]),
    ((415, 93), [4, 2, 6, 7]),
    ((10 ** 199, 1), [10 ** 199]),
    ((1, 10 ** 199), [0, 10 ** 199]),
    ((-1, 10 ** 199), [-1, 1, 10 ** 199 - 1]),
]
NO_STEPS = [
    [], [0, 0], [1, 0], [1, -1], [3, -2, 2], [3, 2, 0, 2], [3, 0, 2], [1, 2, 3, -10 ** 199, 5], [2, 0, 0], [2, 5, 0],
    [0, 1], [1, 1], [-1, 1], [3, 2, 1], [3, 1, 1], [3, 2, 2, 2, 1], [1] * 64, [2] * 63 + [0], [2] * 63 + [1],
]


def small_fractions(most):
    """All fractions from -most to most with bottoms to most, ascending."""
    told = {fractions.Fraction(top, bottom) for bottom in range(1, most + 1) for top in range(-most, most + 1)}
    return [(worth.numerator, worth.denominator) for worth in sorted(told)]


def turned(row):
    return row.translate({ord("0"): "1", ord("1"): "0"})


def behind_by_the_words(steps):
    """What follows a step, as point 12 words it."""
    if not steps:
        return "0"
    return "1" + turned(count_row(steps[0] - 1) + behind_by_the_words(steps[1:]))


class Steps(unittest.TestCase):
    def test_steps(self):
        for fraction, steps in STEPS:
            with self.subTest(fraction):
                self.assertEqual(steps_of(fraction), steps)
                self.assertIsInstance(steps_of(fraction), list)

    def test_fractions_of_steps(self):
        for fraction, steps in STEPS:
            with self.subTest(fraction):
                self.assertTrue(same(fraction_of(steps), fraction))

    def test_each_small_fraction_from_its_steps(self):
        for fraction in small_fractions(25):
            steps = steps_of(fraction)
            self.assertEqual(fraction_of(steps), fraction)
            self.assertEqual(steps[0], fraction[0] // fraction[1])
            self.assertTrue(all(step >= 1 for step in steps[1:]))
            self.assertTrue(len(steps) == 1 or steps[-1] >= 2)

    def test_a_single_step_may_be_any(self):
        for n in (1, 0, -1, 10 ** 199, -(10 ** 199)):
            self.assertEqual(fraction_of([n]), (n, 1))

    def test_many_steps(self):
        self.assertEqual(steps_of(fibonacci_fraction(200)), [1] * 199 + [2])
        self.assertEqual(fraction_of([1] * 199 + [2]), fibonacci_fraction(200))
        self.assertEqual(steps_of(fraction_of([-5] + [10 ** 199] * 63)), [-5] + [10 ** 199] * 63)

    def test_no_fraction_has_these(self):
        for steps in NO_STEPS:
            with self.subTest(steps):
                self.assertRaises(NoFit, fraction_of, steps)

    def test_the_list_handed_in_stays(self):
        for steps in [steps for fraction, steps in STEPS] + NO_STEPS:
            handed = list(steps)
            try:
                fraction_of(handed)
            except NoFit:
                pass
            self.assertEqual(handed, steps)

    def test_a_told_list_is_the_askers_own(self):
        for fraction, steps in STEPS:
            told = steps_of(fraction)
            told.append(9)
            told[0] = 77
            self.assertEqual(steps_of(fraction), steps)

    def test_a_list_handed_in_may_be_changed_later(self):
        handed = [1, 2, 2]
        told = fraction_of(handed)
        handed[0] = 9
        self.assertEqual(told, (7, 5))
        self.assertEqual(fraction_of([1, 2, 2]), (7, 5))


class Rows(unittest.TestCase):
    def test_rows_made_by_hand(self):
        told = {
            (0, 1): "10" + "0",
            (3, 1): "110100" + "0",
            (-1, 1): "01" + "0",
            (-2, 1): "00111" + "0",
            # A half is 0, 2: the count of the second step is 1, and all behind the first is turned.
            (1, 2): "10" + "1" + "0111" + "1",
            (-1, 2): "01" + "1" + "0111" + "1",
            (1, 3): "10" + "1" + "0110" + "1",
            (7, 2): "110100" + "1" + "0111" + "1",
            (7, 5): "11000" + "1" + "0111" + "0" + "1000" + "0",
            (5, 3): "11000" + "1" + "1" + "0" + "1000" + "0",
            (2, 5): "10" + "1" + "0111" + "0" + "1000" + "0",
            (-7, 5): "00111" + "1" + "1" + "0" + "0" + "1" + "0111" + "1",
            # 4, 2, 6, 7: the counts behind the first are 1, 5 and 6.
            (415, 93): "110101" + "1" + "0111" + "0" + "10110" + "1" + "01000" + "1",
        }
        for fraction, row in told.items():
            with self.subTest(fraction):
                self.assertEqual(fraction_row(fraction), row)

    def test_rows_by_the_words(self):
        for fraction in small_fractions(20) + [fibonacci_fraction(200), (TOP, 1), (BOTTOM, 1), (1, TOP + 1)]:
            steps = steps_of(fraction)
            self.assertEqual(fraction_row(fraction), whole_row(steps[0]) + behind_by_the_words(steps[1:]))

    def test_no_fractions(self):
        no_bottom = [(0, 0), (1, 0), (-1, 0), (10 ** 199, 0)]
        below = [(1, -1), (0, -1), (1, -2), (-1, -2), (3, -10 ** 199)]
        common = [(0, 2), (2, 2), (2, 4), (-2, 4), (6, 9), (-15, 10), (10 ** 100, 10 ** 50), (0, 10 ** 199)]
        for fraction in no_bottom + below + common:
            with self.subTest(fraction):
                self.assertRaises(NoFit, fraction_row, fraction)

    def test_steps_at_the_ends_of_their_ranges(self):
        most = "1" * 268
        self.assertEqual(fraction_row((TOP, 1)), "1" + most + "0")
        self.assertEqual(fraction_row((BOTTOM, 1)), "0" + turned(most) + "0")
        self.assertEqual(fraction_row((1, TOP + 1)), "10" + "1" + turned(most + "0"))
        self.assertEqual(fraction_row((TOP + 1, 2 * (TOP + 1) + 1)), "10" + "1" + "0111" + "0" + most + "0")

    def test_steps_out_of_their_ranges(self):
        for steps in ([TOP + 1], [BOTTOM - 1], [10 ** 199], [0, TOP + 2], [0, 10 ** 199], [0, 2, TOP + 2],
                      [TOP + 1, 2], [BOTTOM - 1, 2], [3, TOP + 2, 2], [3, 1, 1, 1, TOP + 2, 1, 2]):
            with self.subTest(steps):
                self.assertRaises(NoFit, fraction_row, fraction_of(steps))
        for steps in ([TOP], [BOTTOM], [0, TOP + 1], [TOP, TOP + 1], [BOTTOM, TOP + 1, TOP + 1], [3, TOP + 1, 2]):
            with self.subTest(steps):
                self.assertEqual(fraction_row(fraction_of(steps)),
                                 whole_row(steps[0]) + behind_by_the_words(steps[1:]))

    def test_rows_stand_as_the_fractions_do(self):
        great = {(BOTTOM, 1), (-(10 ** 30), 1), (10 ** 30, 1), (10 ** 30, 7), (TOP, 1), (1, TOP + 1), (-1, TOP + 1)}
        told = sorted(great | set(small_fractions(16)) | {fibonacci_fraction(k) for k in range(1, 60)},
                      key=lambda fraction: fractions.Fraction(*fraction))
        rows = [fraction_row(fraction) for fraction in told]
        for one, other in zip(rows, rows[1:]):
            self.assertLess(one, other)
            # Where rows ascend, one that begins any later one begins the next one.
            self.assertFalse(other.startswith(one), (one, other))


if __name__ == "__main__":
    unittest.main()
