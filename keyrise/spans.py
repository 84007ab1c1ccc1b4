"""Spans of rows, from a first row to one that no longer lies in them, and what parts two rows."""

from keyrise.compounds import first_unlike
from keyrise.errors import NoFit, NotAhead


def behind_all(row):
    # A 1 can't be raised: so the last 0 is, and the ones behind it fall away, since the least row is asked for.
    begun = row.rstrip("1")
    return None if begun == "" else begun[:-1] + "1"


def span_of(form, first, low, high):
    if len(first) >= len(form.forms):
        raise NoFit("no part is left behind the first values")
    begun = "".join([part.row(value) for part, value in zip(form.forms, first)])
    further = form.forms[len(first)]
    start = begun + further.row(low[0]) if low else begun
    end = begun + further.row(high[0]) if high else behind_all(begun)
    return (start, end)


def shared_signs(one, other):
    return first_unlike(one, other)


def parting_of(one, other):
    if not one < other:
        raise NotAhead("the one row isn't ahead of the other one")
    return other[:shared_signs(one, other) + 1]
