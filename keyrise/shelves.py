"""A shelf that keeps values of a form in pages of their rows.

It keeps the rows alone, ascending, and reads the values anew for each asker, so that nothing told is shared
with it. Every page but the last one is full: so two neighbours hold together more rows than there is room.
"""

from keyrise.errors import NoForm
from keyrise.pages import page_of
from keyrise.reading import read_all
from keyrise.spans import parting_of

LEAST_ROOM = 2
MOST_ROOM = 20


class Shelf:
    def __init__(self, form, room):
        if room < LEAST_ROOM or room > MOST_ROOM:
            raise NoForm("the room of a page is too small or too great")
        self.form = form
        self.room = room
        self.rows = []

    def put(self, value):
        row = self.form.row(value)
        if row in self.rows:
            return False
        self.rows = sorted(self.rows + [row])
        return True

    def take(self, value):
        row = self.form.row(value)
        if row not in self.rows:
            return False
        self.rows.remove(row)
        return True

    def has(self, value):
        return self.form.row(value) in self.rows

    def size(self):
        return len(self.rows)

    def pages(self):
        return [page_of(self.rows[k:k + self.room]) for k in range(0, len(self.rows), self.room)]

    def partings(self):
        return [parting_of(self.rows[k - 1], self.rows[k]) for k in range(self.room, len(self.rows), self.room)]

    def told(self, start, end):
        rows = [row for row in self.rows if start <= row and (end is None or row < end)]
        return [read_all(self.form, row) for row in rows]
