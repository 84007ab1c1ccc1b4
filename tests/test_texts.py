"""Points 17 and 18: forms as texts, and the forms that texts write."""

import unittest

from cases import ALL_FORMS, DEEP_FORMS, FormCase, LETTERS
from keyrise.compounds import Choice, Many, Maybe, Record, Turned
from keyrise.errors import NoText
from keyrise.forms import Fraction, Letters, Nothing, Span, Truth, Whole
from keyrise.texts import form_of

SIXTY = "abcdefghijklmnopqrstuvwxyzABCDEFGHIJKLMNOPQRSTUVWXYZ01234567"
TEXTS = [
    "nothing", "truth", "whole", "span(0, 0)", "span(-1, 0)", "span(0, 1)", "span(-10, -9)", "span(5, 100)",
    "fraction", "letters(a)", "letters(0)", "letters(Zz09)", "letters(" + SIXTY + ")", "letters(span)",
    "maybe(nothing)", "many(whole)", "turned(truth)", "record(a whole)", "choice(a whole)",
    "record(whole whole, span span(1, 2))", "choice(b letters(ba), a maybe(many(fraction)), abcdefghijkl truth)",
    "record(a record(a record(a choice(a nothing, b nothing)), b truth), b whole)",
    "maybe(many(turned(maybe(many(turned(maybe(whole)))))))",
    "maybe(many(turned(maybe(many(turned(maybe(span(-3, 3))))))))",
    "record(" + ", ".join(name + " nothing" for name in LETTERS[:20]) + ")",
    "choice(" + ", ".join(name + " truth" for name in LETTERS[:20]) + ")",
]


def nested(depth, inner="whole"):
    """A text of forms that lie that deep."""
    return "maybe(" * (depth - 1) + inner + ")" * (depth - 1)


class Shown(unittest.TestCase):
    def test_each_form(self):
        told = [
            (Nothing(), "nothing"), (Truth(), "truth"), (Whole(), "whole"), (Fraction(), "fraction"),
            (Span(0, 5), "span(0, 5)"), (Span(-12, -3), "span(-12, -3)"), (Span(0, 0), "span(0, 0)"),
            (Letters("bA0"), "letters(bA0)"), (Maybe(Whole()), "maybe(whole)"), (Many(Truth()), "many(truth)"),
            (Record([("a", Whole())]), "record(a whole)"),
            (Record([("b", Whole()), ("a", Nothing())]), "record(b whole, a nothing)"),
            (Choice([("a", Whole())]), "choice(a whole)"),
            (Choice([("b", Span(1, 2)), ("a", Truth()), ("c", Truth())]), "choice(b span(1, 2), a truth, c truth)"),
            (Turned(Fraction()), "turned(fraction)"),
        ]
        for form, text in told:
            self.assertEqual(form.shown(), text)

    def test_forms_within_forms(self):
        for text, form, values in ALL_FORMS:
            self.assertEqual(form.shown(), text)

    def test_great_numbers(self):
        far = 10 ** 58 - 1
        self.assertEqual(Span(-far, far).shown(), "span(-" + "9" * 58 + ", " + "9" * 58 + ")")


class Read(FormCase):
    def test_texts_are_shown_again(self):
        for text in TEXTS + [text for text, form, values in ALL_FORMS]:
            with self.subTest(text):
                self.assertEqual(form_of(text).shown(), text)

    def test_the_form_is_the_one_written(self):
        for text, form, values in ALL_FORMS:
            told = form_of(text)
            self.assertIs(type(told), type(form))
            for value in values:
                self.assertEqual(told.row(value), form.row(value))
                self.check_same(told.read(form.row(value), 0), (value, len(form.row(value))))

    def test_numbers_of_58_figures(self):
        far = "9" * 58
        self.assertEqual(form_of(f"span({far}, {far})").row(10 ** 58 - 1), "")
        self.assertEqual(form_of(f"span(-{far}, 0)").shown(), f"span(-{far}, 0)")

    def test_eight_deep(self):
        for inner in ("whole", "nothing", "span(0, 1)", "letters(a)", "fraction"):
            self.assertEqual(form_of(nested(8, inner)).shown(), nested(8, inner))
            for word in ("record", "choice"):
                text = f"{word}(x truth, a {nested(7, inner)}, b {nested(7, inner)})"
                self.assertEqual(form_of(text).shown(), text)


class Refused(unittest.TestCase):
    def check(self, *texts):
        for text in texts:
            with self.subTest(text):
                self.assertRaises(NoText, form_of, text)

    def test_needless_noughts_and_signs(self):
        for n in ("00", "01", "007", "-0", "-00", "-01", "+1", "--1", "- 1", "-", "", "1-", "1.0", "0x1", "1_0", "a"):
            self.check(f"span({n}, 9)", f"span(-9, {n})", f"span({n}, {n})")

    def test_numbers_of_59_figures(self):
        far = "1" + "0" * 58
        self.check(f"span(0, {far})", f"span(-{far}, 0)", f"span({far}, {far})", f"span({far}{far}, {far}{far})")
        self.check("span(0, " + "9" * 500 + ")", "span(0, " + "9" * 5000 + ")")

    def test_blanks(self):
        self.check(" whole", "whole ", " ", "maybe (whole)", "maybe( whole)", "maybe(whole )", "span(1,2)")
        self.check("span(1,  2)", "span(1 , 2)", "span( 1, 2)", "span(1, 2 )", "span (1, 2)", "span(1 2)")
        self.check("record(a whole,b whole)", "record(a whole,  b whole)", "record(a  whole)", "record( a whole)")
        self.check("record(a whole )", "record(awhole)", "record(a whole , b whole)", "record(a whole b whole)")
        self.check("choice(a whole,b whole)", "choice(a  whole)", "choice(awhole)", "letters( a)", "letters(a )")
        self.check("letters(a b)", "letters(a, b)", "who le", "record(a\nwhole)", "whole\n", "\nwhole")

    def test_unknown_words(self):
        self.check("none", "wholes", "whol", "Whole", "WHOLE", "int", "a", "0", "-", "whole1", "maybes(whole)")
        self.check("Maybe(whole)", "list(whole)", "maybe(any)", "record(a any)", "(whole)", "form(whole)", "true")

    def test_brackets(self):
        self.check("(", ")", "()", "maybe(whole", "maybe whole", "maybe(whole))", "maybe((whole))", "maybe)whole(")
        self.check("span(1, 2", "span(1, 2))", "span((1, 2))", "letters(a", "letters(a))", "letters((a))", "letters")
        self.check("record(a whole", "record(a whole))", "record((a whole))", "record(a (whole))", "many", "record")
        self.check("maybe[whole]", "maybe{whole}", "nothing()", "whole()", "truth()", "fraction()", "span", "choice")
        self.check("many(many(whole)", "many(many(whole)))", "maybe", "turned", "turned(")

    def test_signs_behind_the_form(self):
        self.check("whole,", "whole)", "whole whole", "whole, whole", "nothing0", "span(1, 2)a", "maybe(whole)whole")
        self.check("letters(a)b", "record(a whole) b", "truth(", "wholewhole", "whole(whole)")

    def test_parts_missing_or_too_many(self):
        self.check("", "maybe()", "many()", "turned()", "maybe(whole, whole)", "many(a whole)", "turned(a whole)")
        self.check("span()", "span(1)", "span(1, )", "span(, 1)", "span(, )", "span(1, 2, 3)", "span(whole, 1)")
        for word in ("record", "choice"):
            self.check(f"{word}(whole)", f"{word}(a)", f"{word}(a )", f"{word}( whole)", f"{word}(a whole, )")
            self.check(f"{word}(, a whole)", f"{word}(a whole,)", f"{word}(a whole, whole)", f"{word}(a whole, b)")

    def test_nine_deep(self):
        for inner in ("whole", "nothing", "span(0, 1)", "letters(a)"):
            self.check(nested(9, inner), nested(10, inner), f"record(a whole, b {nested(8, inner)})")
            self.check(f"choice(a {nested(8, inner)}, b whole)", f"turned(many({nested(7, inner)}))")
        for text, form, values in DEEP_FORMS:
            self.check(f"maybe({text})", f"record(a whole, b {text})")
        self.check(nested(90), "maybe(" * 100, "many(" * 5000, "record(a " * 60)

    def test_where_a_form_is_refused(self):
        self.check("span(1, 0)", "span(-1, -2)", "letters()", "letters(aa)", "letters(abca)", "letters(" + SIXTY + "8)")
        self.check("letters(-)", "letters(a_b)", "letters(a,b)", "letters(()", "letters(~)", "letters(a.)")
        for word in ("record", "choice"):
            self.check(f"{word}()", f"{word}(a whole, a truth)", f"{word}(abcdefghijklm whole)")
            self.check(f"{word}(A whole)", f"{word}(a1 whole)", f"{word}(1 whole)", f"{word}(a_b whole)")
            self.check(word + "(" + ", ".join(name + " nothing" for name in LETTERS[:21]) + ")")
        self.check("maybe(span(1, 0))", "record(a truth, b many(letters(bb)))", "turned(choice(a whole, a whole))")

    def test_all_texts_with_a_sign_more_or_less(self):
        for text in ("span(-10, 5)", "record(ab whole, b maybe(letters(xY)))", "turned(choice(a nothing, b truth))"):
            for k in range(len(text) + 1):
                self.check_shown_again(text[:k] + text[k + 1:])
                for sign in " ,()-0a~":
                    self.check_shown_again(text[:k] + sign + text[k:])

    def check_shown_again(self, text):
        """Either no form, or the form that the text writes."""
        try:
            form = form_of(text)
        except NoText:
            return
        self.assertEqual(form.shown(), text)


if __name__ == "__main__":
    unittest.main()
