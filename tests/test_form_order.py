"""Points 2, 15 and 16: the order of the values, and that the rows stand in it."""

import functools
import unittest

from cases import ALL_FORMS, DEEP_FORMS, FormCase, fibonacci_fraction
from keyrise.compounds import Turned
from keyrise.errors import NoText
from keyrise.forms import Fraction
from keyrise.texts import form_of


def sorted_by_ahead(form, values):
    return sorted(values, key=functools.cmp_to_key(lambda one, other: -1 if form.ahead(one, other) else 1))


class Order(FormCase):
    def check_pairs(self, text, form, values):
        rows = [form.row(value) for value in values]
        for k, one in enumerate(values):
            for m, other in enumerate(values):
                with self.subTest(text, one=one, other=other):
                    self.assertIs(form.ahead(one, other), k < m)
                    self.assertIs(rows[k] < rows[m], k < m)
                    self.assertIs(rows[m].startswith(rows[k]), k == m)

    def test_values_two_by_two(self):
        for text, form, values in ALL_FORMS:
            self.check_pairs(text, form, values)

    def test_turned_the_other_way_about(self):
        for text, form, values in ALL_FORMS:
            self.check_pairs(text, Turned(form), values[::-1])

    def test_sorted_by_ahead_and_by_rows(self):
        for text, form, values in ALL_FORMS:
            for outer, ascending in ((form, values), (Turned(form), values[::-1])):
                mixed = ascending[1::2] + ascending[::2][::-1]
                rows = [outer.row(value) for value in mixed]
                self.check_same(sorted_by_ahead(outer, mixed), ascending)
                self.assertEqual(sorted(rows), [outer.row(value) for value in ascending])

    def test_some_forms_lie_eight_deep(self):
        for text, form, values in DEEP_FORMS:
            self.assertEqual(form_of(text).shown(), text)
            self.assertRaises(NoText, form_of, "maybe(" + text + ")")

    def test_all_values_fit(self):
        for text, form, values in ALL_FORMS:
            for value in values:
                self.assertIs(form.fits(value), True, text)

    def test_fractions_of_many_steps(self):
        # With each step more the worth comes nearer, from below and from above in turn.
        below = [fibonacci_fraction(steps) for steps in range(2, 201, 2)]
        above = [fibonacci_fraction(steps) for steps in range(199, 0, -2)]
        values = below[:3] + below[-5:] + above[:5] + above[-3:]
        self.check_pairs("fraction", Fraction(), values)


if __name__ == "__main__":
    unittest.main()
