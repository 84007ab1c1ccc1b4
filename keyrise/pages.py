"""Pages: rows that hold rows, ascending, each written by what it doesn't share with the one ahead of it."""

from keyrise.counts import count_row, read_count
from keyrise.errors import BadPage, Lacking, NotAhead, Short, Twice
from keyrise.spans import shared_signs


def ascend(rows):
    return all([one < other for one, other in zip(rows, rows[1:])])


def entry_of(ahead, row):
    shared = shared_signs(ahead, row)
    return count_row(shared) + count_row(len(row) - shared) + row[shared:]


def page_of(rows):
    if not ascend(rows):
        raise NotAhead("a row isn't ahead of the next one")
    # The first row shares no signs, as if the row without signs were ahead of it.
    entries = [entry_of(ahead, row) for ahead, row in zip([""] + rows, rows)]
    return count_row(len(rows)) + "".join(entries)


def may_follow(rows, shared, rest):
    if len(rows) == 0:
        return shared == 0
    last = rows[-1]
    # All that the two rows share is told, so behind it they must part at once.
    left = last[shared:]
    return shared <= len(last) and left < rest and shared_signs(left, rest) == 0


def read_entry(page, at, rows):
    shared = read_count(page, at)
    others = read_count(page, shared[1])
    end = others[1] + others[0]
    rest = page[others[1]:end]
    if end > len(page) or not may_follow(rows, shared[0], rest):
        raise BadPage("a row of the page can't stand so")
    begun = rows[-1][:shared[0]] if rows else ""
    return (begun + rest, end)


def read_rows(page):
    number = read_count(page, 0)
    rows = []
    place = number[1]
    while len(rows) < number[0]:
        entry = read_entry(page, place, rows)
        rows.append(entry[0])
        place = entry[1]
    if place < len(page):
        raise BadPage("signs stand behind the page's last row")
    return rows


def rows_of(page):
    try:
        return read_rows(page)
    except Short:
        raise BadPage("the signs end ahead of the page's end") from None


def place_in(page, row):
    rows = rows_of(page)
    return (len([other for other in rows if other < row]), row in rows)


def page_with(page, row):
    rows = rows_of(page)
    if row in rows:
        raise Twice("the row is in the page")
    return page_of(sorted(rows + [row]))


def page_without(page, row):
    rows = rows_of(page)
    if row not in rows:
        raise Lacking("the row isn't in the page")
    return page_of([other for other in rows if other != row])


def poured(one, other):
    return page_of(sorted(set(rows_of(one)) | set(rows_of(other))))
