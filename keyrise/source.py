"""Signs drawn one by one: what all reading of rows goes through.

A source stands at the place of the sign that is drawn next. While it is turned, each sign counts as the
other one, so that turned rows are read by what reads the rows themselves.

An endless source makes up the signs behind its last one, so that a begun row comes to an end: each is 0,
which ends whatever may end, or the sign that was wished for just ahead of it.
"""

from keyrise.errors import Short, Wrong


class Source:
    def __init__(self, signs, at):
        self.signs = signs
        self.place = at
        self.turned = False
        self.endless = False
        self.wished = 0

    def draw(self):
        wished = self.wished
        self.wished = 0
        if self.place < len(self.signs):
            sign = int(self.signs[self.place])
            self.place = self.place + 1
            return 1 - sign if self.turned else sign
        if not self.endless:
            raise Short(len(self.signs))
        return wished

    def turn(self):
        self.turned = not self.turned

    def go_on(self):
        self.endless = True

    def wish(self, sign):
        self.wished = sign

    def refuse(self):
        # That a sign can't stand is known only once it is drawn, and the place lies behind it then.
        raise Wrong(self.place - 1)
