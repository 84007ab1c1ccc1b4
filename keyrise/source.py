"""Signs drawn one by one: what all reading of rows goes through.

A source stands at the place of the sign that is drawn next. While it is turned, each sign counts as the
other one, so that turned rows are read by what reads the rows themselves.
"""

from keyrise.errors import Short, Wrong


class Source:
    def __init__(self, signs, at):
        self.signs = signs
        self.place = at
        self.turned = False

    def draw(self):
        if self.place >= len(self.signs):
            raise Short(len(self.signs))
        sign = int(self.signs[self.place])
        self.place = self.place + 1
        return 1 - sign if self.turned else sign

    def turn(self):
        self.turned = not self.turned

    def refuse(self):
        # That a sign can't stand is known only once it is drawn, and the place lies behind it then.
        raise Wrong(self.place - 1)
