"""The source of signs that the reading goes through (points 2, 4, 9 and 20)."""

import unittest

from keyrise.errors import Short, Wrong
from keyrise.source import Source


class Drawing(unittest.TestCase):
    def test_signs_come_one_by_one_from_the_place_on(self):
        source = Source("00110", 1)
        self.assertEqual([source.draw() for k in range(4)], [0, 1, 1, 0])

    def test_the_place_moves_with_each_sign(self):
        source = Source("0110", 1)
        self.assertEqual(source.place, 1)
        source.draw()
        self.assertEqual(source.place, 2)
        source.draw()
        self.assertEqual(source.place, 3)

    def test_short_at_the_end(self):
        source = Source("01", 1)
        source.draw()
        for again in range(2):
            with self.assertRaises(Short) as caught:
                source.draw()
            self.assertEqual(caught.exception.place, 2)
            self.assertEqual(source.place, 2)

    def test_short_of_no_signs(self):
        with self.assertRaises(Short) as caught:
            Source("", 0).draw()
        self.assertEqual(caught.exception.place, 0)

    def test_turned_signs(self):
        source = Source("010101", 0)
        told = [source.draw()]
        source.turn()
        told.append(source.draw())
        told.append(source.draw())
        source.turn()
        told.append(source.draw())
        self.assertEqual(told, [0, 0, 1, 1])

    def test_the_sign_drawn_last_is_refused(self):
        source = Source("0110", 1)
        source.draw()
        source.draw()
        with self.assertRaises(Wrong) as caught:
            source.refuse()
        self.assertEqual(caught.exception.place, 2)

    def test_an_endless_source_goes_on_with_noughts(self):
        source = Source("011", 1)
        source.go_on()
        self.assertEqual([source.draw() for k in range(5)], [1, 1, 0, 0, 0])
        self.assertEqual(source.place, 3)
        source.turn()
        self.assertEqual(source.draw(), 0)
        source = Source("", 0)
        source.go_on()
        self.assertEqual(source.draw(), 0)

    def test_a_wish_counts_for_the_next_sign_alone(self):
        source = Source("00", 0)
        source.go_on()
        told = []
        for wishes in (True, True, False, True, False):
            if wishes:
                source.wish(1)
            told.append(source.draw())
        self.assertEqual(told, [0, 0, 0, 1, 0])

    def test_a_wish_does_not_make_a_source_endless(self):
        source = Source("1", 1)
        source.wish(1)
        self.assertRaises(Short, source.draw)


if __name__ == "__main__":
    unittest.main()
