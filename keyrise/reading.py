"""Rows read whole, and values that show how begun rows go on."""

from keyrise.errors import Left
from keyrise.source import Source


def value_of(form, source):
    value = form.draw(source)
    if source.place < len(source.signs):
        raise Left(source.place)
    return value


def read_all(form, signs):
    return value_of(form, Source(signs, 0))


def begun_by(form, signs):
    source = Source(signs, 0)
    source.go_on()
    return value_of(form, source)
