"""Forms read from the texts that write them.

The functions called .._at take a cursor that stands at what they read, and leave it behind that.
"""

from keyrise.compounds import Choice, Many, Maybe, Record, Turned
from keyrise.errors import NoForm, NoText
from keyrise.forms import FIGURES, LETTERS_AND_FIGURES, SMALL_LETTERS
from keyrise.forms import Fraction, Letters, Nothing, Span, Truth, Whole

MOST_FIGURES = 58
MOST_DEEP = 8


class Cursor:
    def __init__(self, text):
        self.text = text
        self.place = 0

    def ended(self):
        return self.place == len(self.text)

    def skip(self, words):
        there = self.text.startswith(words, self.place)
        if there:
            self.place = self.place + len(words)
        return there

    def expect(self, words):
        if not self.skip(words):
            raise NoText("something else is written than the form asks for")

    def run_of(self, signs):
        start = self.place
        while not self.ended() and self.text[self.place] in signs:
            self.place = self.place + 1
        return self.text[start:self.place]


def number_at(cursor):
    below = cursor.skip("-")
    figures = cursor.run_of(FIGURES)
    if figures == "" or len(figures) > MOST_FIGURES:
        raise NoText("a number has no figures or too many")
    if figures[0] == "0" and (below or len(figures) > 1):
        raise NoText("a number has a needless nought or sign")
    return -int(figures) if below else int(figures)


def span_at(cursor):
    low = number_at(cursor)
    cursor.expect(", ")
    return Span(low, number_at(cursor))


def letters_at(cursor):
    return Letters(cursor.run_of(LETTERS_AND_FIGURES))


def part_at(cursor, depth):
    name = cursor.run_of(SMALL_LETTERS)
    cursor.expect(" ")
    return (name, form_at(cursor, depth))


def parts_at(cursor, depth):
    parts = [part_at(cursor, depth)]
    while cursor.skip(", "):
        parts.append(part_at(cursor, depth))
    return parts


def bare_form(word):
    if word == "nothing":
        return Nothing()
    if word == "truth":
        return Truth()
    if word == "whole":
        return Whole()
    if word == "fraction":
        return Fraction()
    return None


def bracketed_form_at(cursor, word, depth):
    if word == "span":
        return span_at(cursor)
    if word == "letters":
        return letters_at(cursor)
    if word == "maybe":
        return Maybe(form_at(cursor, depth + 1))
    if word == "many":
        return Many(form_at(cursor, depth + 1))
    if word == "record":
        return Record(parts_at(cursor, depth + 1))
    if word == "choice":
        return Choice(parts_at(cursor, depth + 1))
    if word == "turned":
        return Turned(form_at(cursor, depth + 1))
    raise NoText("no form is called so")


def form_at(cursor, depth):
    # Asked ahead of all else, so that no text makes the calls lie deeper than forms may.
    if depth > MOST_DEEP:
        raise NoText("the forms lie too deep")
    word = cursor.run_of(SMALL_LETTERS)
    form = bare_form(word)
    if form is None:
        cursor.expect("(")
        form = bracketed_form_at(cursor, word, depth)
        cursor.expect(")")
    return form


def form_of(text):
    cursor = Cursor(text)
    try:
        form = form_at(cursor, 1)
    except NoForm:
        raise NoText("a form that is written can't be made") from None
    if not cursor.ended():
        raise NoText("signs stand behind the form")
    return form
