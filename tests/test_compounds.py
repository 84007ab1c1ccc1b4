"""Points 1, 14 and 15 of the forms that hold forms: how they are made, what fits, and the rows."""

import unittest

from cases import FormCase, LETTERS
from keyrise.compounds import Choice, Many, Maybe, Record, Turned
from keyrise.counts import turned_row
from keyrise.errors import NoFit, NoForm
from keyrise.forms import Form, Fraction, Letters, Nothing, Span, Truth, Whole

FORMS = [Maybe(Whole()), Many(Whole()), Record([("a", Whole())]), Choice([("a", Whole())]), Turned(Whole())]


def parts_of(names):
    return [(name, Nothing()) for name in names]


class Making(unittest.TestCase):
    def test_all_stand_straight_under_form(self):
        for form in FORMS:
            self.assertEqual(type(form).__bases__, (Form,))

    def check_made(self, names):
        Record(parts_of(names))
        Choice(parts_of(names))

    def check_refused(self, names):
        for made in (Record, Choice):
            with self.subTest(made=made, names=names):
                self.assertRaises(NoForm, made, parts_of(names))

    def test_number_of_parts(self):
        self.check_refused([])
        for number in (1, 2, 19, 20):
            self.check_made(LETTERS[:number])
        for number in (21, 22, 26):
            self.check_refused(LETTERS[:number])

    def test_a_name_twice(self):
        self.check_refused(["a", "a"])
        self.check_refused(["a", "b", "cc", "b"])
        self.check_refused(list(LETTERS[:19]) + ["a"])
        self.check_made(["a", "aa", "aaa"])

    def test_lengths_of_names(self):
        self.check_refused([""])
        self.check_refused(["a", ""])
        self.check_made(["a", "abcdefghijk", "abcdefghijkl"])
        self.check_refused(["abcdefghijklm"])
        self.check_refused(["a", "abcdefghijklm"])

    def test_signs_of_names(self):
        self.check_made(["az", "za", LETTERS[:12], LETTERS[12:24]])
        for name in ("A", "aA", "Ab", "a1", "1", "a b", " a", "a ", "a_b", "a,", "(", "-", "\u00e9", "a\n"):
            self.check_refused([name])
            self.check_refused(["a", name])

    def test_the_list_handed_in_stays_and_may_be_changed_later(self):
        for made, value, row, text in ((Record, (True, 1), "11", "record(t truth, n span(0, 1))"),
                                       (Choice, ("n", 1), "11", "choice(t truth, n span(0, 1))")):
            parts = [("t", Truth()), ("n", Span(0, 1))]
            handed = list(parts)
            form = made(handed)
            self.assertEqual(handed, parts)
            handed.append(("x", Nothing()))
            handed[0] = ("y", Whole())
            self.assertEqual(form.shown(), text)
            self.assertEqual(form.row(value), row)
            self.assertEqual(form.read(row, 0), (value, 2))


class Rows(unittest.TestCase):
    def test_maybe(self):
        self.assertEqual(Maybe(Nothing()).row(()), "0")
        self.assertEqual(Maybe(Nothing()).row((None,)), "1")
        self.assertEqual(Maybe(Whole()).row(()), "0")
        self.assertEqual(Maybe(Whole()).row((-2,)), "1" + "00111")
        self.assertEqual(Maybe(Maybe(Truth())).row(((),)), "10")

    def test_many(self):
        self.assertEqual(Many(Whole()).row([]), "0")
        self.assertEqual(Many(Whole()).row([-1, 0, 1]), "1" + "01" + "1" + "10" + "1" + "11000" + "0")
        self.assertEqual(Many(Nothing()).row([None] * 60), "1" * 60 + "0")
        self.assertEqual(Many(Many(Truth())).row([[], [True]]), "1" + "0" + "1" + "110" + "0")

    def test_record(self):
        form = Record([("b", Truth()), ("a", Span(0, 5)), ("c", Nothing()), ("d", Letters("xy"))])
        self.assertEqual(form.row((True, 1, None, "y")), "1" + "001" + "" + "110")
        self.assertEqual(Record([("a", Nothing())]).row((None,)), "")

    def test_choice(self):
        form = Choice([("z", Truth()), ("a", Span(0, 5)), ("m", Nothing())])
        self.assertEqual(form.row(("z", True)), "00" + "1")
        self.assertEqual(form.row(("a", 5)), "01" + "101")
        self.assertEqual(form.row(("m", None)), "10")
        self.assertEqual(Choice([("a", Truth())]).row(("a", False)), "0")
        self.assertEqual(Choice(parts_of(LETTERS[:20])).row(("t", None)), "10011")

    def test_turned(self):
        self.assertEqual(Turned(Nothing()).row(None), "")
        self.assertEqual([Turned(Truth()).row(value) for value in (False, True)], ["1", "0"])
        self.assertEqual(Turned(Whole()).row(3), turned_row("110100"))
        self.assertEqual(Turned(Turned(Whole())).row(3), "110100")
        self.assertEqual(Turned(Many(Turned(Truth()))).row([True]), "0" + "1" + "1")

    def test_lists_handed_in_stay(self):
        value = [[3, 1], [], [2]]
        Many(Many(Whole())).row(value)
        Many(Many(Whole())).fits(value)
        Many(Many(Whole())).ahead(value, [[3, 1]])
        self.assertEqual(value, [[3, 1], [], [2]])

    def test_lists_told_are_the_askers_own(self):
        form = Record([("m", Many(Many(Truth()))), ("n", Many(Nothing()))])
        signs = form.row(([[True], []], [None]))
        told, place = form.read(signs, 0)
        told[0][0].append(False)
        told[0].append([True])
        told[1].clear()
        self.assertEqual(form.read(signs, 0), (([[True], []], [None]), place))


class Fits(FormCase):
    def test_maybe(self):
        self.check_fitting(Maybe(Nothing()), [(), (None,)])
        self.check_fitting(Maybe(Truth()), [(), (True,)])
        self.check_fitting(Maybe(Span(0, 5)), [(), (0,), (1,)])
        self.check_fitting(Maybe(Maybe(Span(0, 5))), [(), ((),), ((0,),)])
        self.check_fitting(Maybe(Many(Whole())), [(), ([],)])

    def test_many(self):
        self.check_fitting(Many(Nothing()), [[], [None], [None] * 60])
        self.check_fitting(Many(Truth()), [[], [True]])
        self.check_fitting(Many(Span(0, 5)), [[], [0], [1], [5, 0], [0, 1], [0] * 60])
        self.check_fitting(Many(Many(Span(0, 5))), [[], [[]], [[0], []], [[0] * 60] * 60])
        self.check_fitting(Many(Fraction()), [[], [(0, 1)]])
        self.check_fitting(Many(Maybe(Truth())), [[], [()]])

    def test_record(self):
        self.check_fitting(Record([("a", Span(0, 5)), ("b", Letters("a"))]), [(0, "a")])
        self.check_fitting(Record([("a", Truth()), ("b", Whole())]), [(True, 2), (False, 1)])
        self.check_fitting(Record([("a", Span(0, 1))]), [(0,), (1,)])
        self.check_fitting(Record([("a", Span(0, 0)), ("b", Letters("a")), ("c", Nothing())]), [(0, "a", None)])
        self.check_fitting(Record([("a", Many(Whole())), ("b", Many(Whole()))]), [([], [])])
        self.check_fitting(Record([("a", Maybe(Whole()))]), [((),), ((0,),)])

    def test_choice(self):
        self.check_fitting(Choice([("a", Nothing()), ("b", Span(0, 5))]), [("a", None), ("b", 1)])
        self.check_fitting(Choice([("b", Truth()), ("c", Truth())]), [("b", True)])
        self.check_fitting(Choice([("a", Letters("a"))]), [("a", "a")])

    def test_turned(self):
        self.check_fitting(Turned(Nothing()), [None])
        self.check_fitting(Turned(Span(0, 5)), [0, 1, 2, 5])
        self.check_fitting(Turned(Many(Span(0, 5))), [[], [0], [1], [5, 0], [0, 1], [0] * 60])
        self.check_fitting(Many(Turned(Truth())), [[], [True]])

    def test_a_value_that_fits_not_deep_within(self):
        form = Many(Record([("a", Maybe(Choice([("x", Many(Span(0, 5)))])))]))
        self.assertIs(form.fits([((("x", [0, 5]),),)]), True)
        for wrong in ([((("x", [0, 6]),),)], [((("x", [0, True]),),)], [((("y", [0]),),)], [((["x", [0]],),)],
                      [((("x", (0,)),),)], [[(("x", [0]),)]], (((("x", [0]),),),), [((("x", [0] * 61),),)]):
            self.assertIs(form.fits(wrong), False)
            self.assertRaises(NoFit, form.row, wrong)


if __name__ == "__main__":
    unittest.main()
