"""Points 27 to 30: shelves that keep values in pages."""

import copy
import itertools
import unittest

from cases import ALL_FORMS, ANYTHING, FormCase, fibonacci_fraction, rows_up_to
from keyrise.compounds import Choice, Many, Maybe, Record, Turned
from keyrise.errors import NoFit, NoForm
from keyrise.forms import Fraction, Letters, Nothing, Span, Truth, Whole
from keyrise.pages import rows_of
from keyrise.shelves import Shelf
from keyrise.spans import parting_of, span_of

ROOMS = [2, 3, 4, 5, 7, 19, 20]
LISTS = Many(Many(Span(0, 2)))
LIST_VALUES = [[], [[]], [[], [0]], [[0]], [[0], []], [[0, 2]], [[1]], [[2, 2]], [[2, 2], [0]]]


def orders_of(values):
    """The values in many orders: up, down, from the ends inward, and by steps of several lengths."""
    number = len(values)
    told = [list(values), values[::-1], [values[-(k + 1) // 2 if k % 2 else k // 2] for k in range(number)]]
    for step in (7, 11, 13, 17):
        if number % step:
            told.append([values[k * step % number] for k in range(number)])
    return told


def filled(form, room, values):
    shelf = Shelf(form, room)
    for value in values:
        shelf.put(value)
    return shelf


def state_of(shelf):
    return (shelf.size(), shelf.pages(), shelf.partings(), shelf.told("", None))


class ShelfCase(FormCase):
    def check_shelf(self, shelf, form, room, values):
        """That the shelf keeps just these values, which ascend."""
        pages = [rows_of(page) for page in shelf.pages()]
        self.assertEqual(shelf.size(), len(values))
        self.assertEqual([row for page in pages for row in page], [form.row(value) for value in values])
        for page in pages:
            self.assertTrue(1 <= len(page) <= room)
        for one, other in zip(pages, pages[1:]):
            self.assertGreater(len(one) + len(other), room)
        partings = [parting_of(one[-1], other[0]) for one, other in zip(pages, pages[1:])]
        self.assertEqual(shelf.partings(), partings)
        self.check_same(shelf.told("", None), values)


class Rooms(unittest.TestCase):
    def test_rooms_in_range(self):
        for room in range(2, 21):
            shelf = Shelf(Whole(), room)
            self.assertEqual(state_of(shelf), (0, [], [], []))

    def test_rooms_out_of_range(self):
        for room in (1, 0, -1, -2, -20, 21, 22, 40, 2 ** 64, -(2 ** 64), 10 ** 200, -(10 ** 200)):
            self.assertRaises(NoForm, Shelf, Whole(), room)
            self.assertRaises(NoForm, Shelf, Nothing(), room)

    def test_a_page_takes_as_many_rows_as_there_is_room(self):
        for room in range(2, 21):
            shelf = filled(Whole(), room, range(room))
            self.assertEqual(len(shelf.pages()), 1)
            shelf.put(room)
            self.assertEqual(len(shelf.pages()), 2)


class Deeds(ShelfCase):
    def test_put_take_has(self):
        shelf = Shelf(Whole(), 2)
        self.assertIs(shelf.has(5), False)
        self.assertIs(shelf.take(5), False)
        self.assertIs(shelf.put(5), True)
        self.assertIs(shelf.put(5), False)
        self.assertIs(shelf.has(5), True)
        self.assertIs(shelf.has(4), False)
        self.assertIs(shelf.take(4), False)
        self.assertEqual(shelf.size(), 1)
        self.assertIs(shelf.take(5), True)
        self.assertIs(shelf.take(5), False)
        self.assertIs(shelf.has(5), False)
        self.assertEqual(shelf.size(), 0)

    def test_values_of_every_form(self):
        for text, form, values in ALL_FORMS:
            shelf = Shelf(form, 3)
            for k, value in enumerate(values):
                self.assertIs(shelf.has(value), False)
                self.assertIs(shelf.put(value), True)
                self.assertIs(shelf.put(value), False)
                self.assertIs(shelf.has(value), True)
                self.assertEqual(shelf.size(), k + 1)
            self.check_shelf(shelf, form, 3, values)
            for k, value in enumerate(values):
                self.assertIs(shelf.take(value), True)
                self.assertIs(shelf.take(value), False)
                self.assertIs(shelf.has(value), False)
                self.assertEqual(shelf.size(), len(values) - k - 1)
            self.assertEqual(state_of(shelf), (0, [], [], []))

    def check_no_fit(self, shelf, form):
        before = state_of(shelf)
        for value in ANYTHING:
            if not form.fits(value):
                self.assertRaises(NoFit, shelf.put, value)
                self.assertRaises(NoFit, shelf.take, value)
                self.assertRaises(NoFit, shelf.has, value)
                self.assertEqual(shelf.size(), before[0])
        self.check_same(state_of(shelf), before)

    def test_what_does_not_fit_changes_nothing(self):
        for text, form, values in ALL_FORMS:
            shelf = Shelf(form, 2)
            self.check_no_fit(shelf, form)
            for value in values:
                shelf.put(value)
            self.check_no_fit(shelf, form)
            for value in values:
                shelf.take(value)
            self.check_no_fit(shelf, form)
            self.assertEqual(state_of(shelf), (0, [], [], []))

    def test_kinds_that_python_calls_alike(self):
        shelf = filled(Whole(), 2, [0, 1])
        for value in (True, False):
            self.assertRaises(NoFit, shelf.has, value)
        shelf = filled(Many(Truth()), 2, [[True], [False]])
        for value in ([1], [0], (True,)):
            self.assertRaises(NoFit, shelf.put, value)
        self.check_same(shelf.told("", None), [[False], [True]])

    def test_values_put_in_are_changed_afterwards(self):
        values = copy.deepcopy(LIST_VALUES)
        shelf = filled(LISTS, 3, values)
        before = state_of(shelf)
        for value in values:
            for inner in value:
                inner.append(1)
            value.append("x")
        self.check_same(state_of(shelf), before)
        self.check_shelf(shelf, LISTS, 3, LIST_VALUES)

    def test_values_told_are_changed_afterwards(self):
        shelf = filled(LISTS, 3, LIST_VALUES)
        told = shelf.told("", None)
        for value in told:
            for inner in value:
                inner.clear()
            value.append([1])
        told.clear()
        self.check_shelf(shelf, LISTS, 3, LIST_VALUES)
        self.assertTrue(all(shelf.has(value) for value in LIST_VALUES))

    def test_what_is_handed_in_stays(self):
        shelf = Shelf(LISTS, 2)
        value = [[0, 1], [2]]
        for ask in (shelf.has, shelf.put, shelf.put, shelf.has, shelf.take, shelf.take):
            ask(value)
            self.check_same(value, [[0, 1], [2]])

    def test_parts_that_are_changed_behind_the_record(self):
        parts = [("a", Truth()), ("b", Truth())]
        shelf = Shelf(Record(parts), 2)
        shelf.put((True, False))
        parts.append(("c", Truth()))
        parts[0] = ("a", Whole())
        self.assertIs(shelf.has((True, False)), True)
        self.check_same(shelf.told("", None), [(True, False)])

    def test_fractions_of_many_steps(self):
        values = [fibonacci_fraction(k) for k in (1000, 400, 999, 201)]
        shelf = filled(Fraction(), 2, values)
        self.assertEqual(shelf.size(), 4)
        self.assertTrue(all(shelf.has(value) for value in values))
        self.check_same(sorted(shelf.told("", None)), sorted(values))
        self.assertIs(shelf.take(values[0]), True)
        self.assertIs(shelf.has(values[0]), False)

    def test_nothing_as_the_one_value(self):
        shelf = Shelf(Nothing(), 2)
        self.assertEqual(shelf.told("", None), [])
        self.assertIs(shelf.put(None), True)
        self.assertEqual(state_of(shelf), (1, ["100000"], [], [None]))
        self.assertIs(shelf.put(None), False)
        self.assertIs(shelf.take(None), True)
        self.assertEqual(state_of(shelf), (0, [], [], []))


class Pages(ShelfCase):
    def check_orders(self, form, values, rooms):
        """Values put in and taken out in every two of many orders; the values handed in ascend."""
        orders = orders_of(values)
        for room in rooms:
            for k, ins in enumerate(orders):
                shelf = Shelf(form, room)
                there = []
                for value in ins:
                    self.assertIs(shelf.put(value), True)
                    there.append(value)
                    self.check_shelf(shelf, form, room, [v for v in values if v in there])
                for value in orders[(k + room) % len(orders)]:
                    self.assertIs(shelf.take(value), True)
                    there.remove(value)
                    self.check_shelf(shelf, form, room, [v for v in values if v in there])

    def test_sixty_numbers(self):
        self.check_orders(Whole(), list(range(-30, 30)), [2, 3, 20])

    def test_fewer_numbers_in_all_rooms(self):
        self.check_orders(Span(0, 50), list(range(0, 50, 2)), range(2, 21))

    def test_other_forms(self):
        texts = sorted("".join(text) for k in range(4) for text in itertools.product("ab", repeat=k))
        self.check_orders(Letters("ab"), texts, [2, 5])
        self.check_orders(Turned(Letters("ab")), texts[::-1], [3])
        self.check_orders(LISTS, LIST_VALUES, ROOMS)
        records = [(a, b, c) for a in range(3) for b in (True, False) for c in ((), (0,), (1,))]
        form = Record([("a", Span(0, 2)), ("b", Turned(Truth())), ("c", Maybe(Span(0, 1)))])
        self.check_orders(form, records, [2, 4])

    def test_put_and_taken_in_turn(self):
        for room in ROOMS:
            shelf = Shelf(Whole(), room)
            there = set()
            for k in range(400):
                n = k * k * 7 % 61 - 30 if k % 3 else k * 11 % 61 - 30
                if k % 4 == 3 or len(there) == 60:
                    self.assertIs(shelf.take(n), n in there)
                    there.discard(n)
                else:
                    self.assertIs(shelf.put(n), n not in there)
                    there.add(n)
                self.check_shelf(shelf, Whole(), room, sorted(there))

    def test_asked_twice_alike(self):
        for room in ROOMS:
            for order in orders_of(list(range(40))):
                shelf = filled(Whole(), room, order)
                before = state_of(shelf)
                # Deeds that put nothing in and take nothing out change nothing either.
                shelf.has(3)
                shelf.has(99)
                shelf.put(7)
                shelf.take(-1)
                shelf.told("1", "0")
                self.assertEqual(state_of(shelf), before)

    def test_told_lists_are_changed_afterwards(self):
        shelf = filled(Whole(), 2, range(9))
        before = state_of(shelf)
        for told in (shelf.pages(), shelf.partings(), shelf.told("", None)):
            told[0] = "0"
            told.append("1")
            told.pop(1)
            self.assertEqual(state_of(shelf), before)
        for told in (shelf.pages(), shelf.partings(), shelf.told("", None)):
            told.clear()
            self.assertEqual(state_of(shelf), before)

    def test_partings(self):
        shelf = Shelf(Span(0, 7), 2)
        self.assertEqual(shelf.partings(), [])
        shelf.put(0)
        self.assertEqual(shelf.partings(), [])
        shelf.put(1)
        self.assertEqual(shelf.partings(), [])
        shelf.put(4)
        self.assertEqual(len(shelf.partings()), 1)
        for n in (2, 3, 5, 6, 7):
            shelf.put(n)
        self.assertEqual(len(shelf.partings()), len(shelf.pages()) - 1)

    def test_two_shelves_beside_each_other(self):
        form = Whole()
        one, other, third = Shelf(form, 2), Shelf(form, 2), Shelf(form, 20)
        for n in range(7):
            one.put(n)
            other.put(-n)
        self.check_shelf(one, form, 2, [0, 1, 2, 3, 4, 5, 6])
        self.check_shelf(other, form, 2, [-6, -5, -4, -3, -2, -1, 0])
        self.check_shelf(third, form, 20, [])
        one.take(0)
        other.pages().clear()
        self.assertIs(other.has(0), True)
        self.check_shelf(other, form, 2, [-6, -5, -4, -3, -2, -1, 0])


class Told(ShelfCase):
    def check_told(self, form, values, bounds):
        for room in (2, 20):
            shelf = filled(form, room, values[::-1])
            rows = [(value, form.row(value)) for value in values]
            for start, end in itertools.product(bounds, list(bounds) + [None]):
                inside = [value for value, row in rows if start <= row and (end is None or row < end)]
                self.check_same(shelf.told(start, end), inside)

    def test_all_short_bounds(self):
        self.check_told(Span(0, 5), [0, 1, 2, 3, 4, 5], rows_up_to(4))
        self.check_told(Turned(Maybe(Truth())), [(True,), (False,), ()], rows_up_to(3))
        self.check_told(Nothing(), [None], ["", "0", "1"])

    def test_rows_of_values_their_beginnings_and_longer_ones(self):
        for text, form, values in ALL_FORMS:
            some = values[:2] + values[-2:] if len(values) > 4 else values
            rows = [form.row(value) for value in some]
            bounds = ["", "0", "1"]
            for row in rows:
                bounds.extend([row, row[:-1], row[:len(row) // 2], row + "0", row + "1"])
            self.check_told(form, some, sorted(set(bounds)))

    def test_ends(self):
        shelf = filled(Span(0, 7), 3, range(8))
        self.assertEqual(shelf.told("", None), [0, 1, 2, 3, 4, 5, 6, 7])
        self.assertEqual(shelf.told("", ""), [])
        self.assertEqual(shelf.told("010", "101"), [2, 3, 4])
        self.assertEqual(shelf.told("010", "010"), [])
        self.assertEqual(shelf.told("101", "010"), [])
        self.assertEqual(shelf.told("01", "1"), [2, 3])
        self.assertEqual(shelf.told("0100", "1010"), [3, 4, 5])
        self.assertEqual(shelf.told("1111", None), [])
        self.assertEqual(shelf.told("1" * 40000, None), [])
        self.assertEqual(shelf.told("", "0" * 40000), [0])

    def test_a_shelf_of_nothing(self):
        shelf = Shelf(Whole(), 2)
        for start, end in itertools.product(["", "0", "1"], ["", "0", "1", None]):
            self.assertEqual(shelf.told(start, end), [])

    def test_told_anew_each_time(self):
        shelf = filled(LISTS, 2, LIST_VALUES)
        one, other = shelf.told("", None), shelf.told("", None)
        self.assertIsNot(one, other)
        for k in range(len(one)):
            self.assertIsNot(one[k], other[k])

    def test_spans_of_records(self):
        records = [
            ([Span(0, 2), Turned(Truth()), Letters("ab")], [[0, 1, 2], [True, False], ["", "a", "ab", "b"]]),
            ([Turned(Fraction()), Choice([("b", Nothing()), ("a", Truth())])],
             [[(2, 1), (1, 2), (1, 3), (-1, 1)], [("b", None), ("a", False), ("a", True)]]),
            ([Maybe(Truth()), Turned(Many(Truth()))],
             [[(), (False,), (True,)], [[True, True], [True], [False, True], [False], []]]),
        ]
        for forms, lists in records:
            form = Record([(name, part) for name, part in zip("abc", forms)])
            # The lists ascend, so their products do.
            values = list(itertools.product(*lists))
            shelf = filled(form, 5, values[1::2] + values[::2])
            for place in range(len(lists)):
                ends = [()] + [(value,) for value in lists[place]]
                for first in itertools.product(*lists[:place]):
                    for low, high in itertools.product(ends, repeat=2):
                        start = lists[place].index(low[0]) if low else 0
                        end = lists[place].index(high[0]) if high else len(lists[place])
                        inside = lists[place][start:end]
                        named = [v for v in values if v[:place] == first and v[place] in inside]
                        told = shelf.told(*span_of(form, list(first), low, high))
                        self.check_same(told, named)


if __name__ == "__main__":
    unittest.main()
