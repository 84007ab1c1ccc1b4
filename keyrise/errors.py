"""The refusals: a class of its own for each, all straight under RiseError.

Short, Wrong and Left have the field place: of Short the length of the signs, of Wrong the place of the
first sign with which no row goes on, of Left the place behind the row.
"""


class RiseError(ValueError):
    pass


class NoFit(RiseError):
    pass


class Short(RiseError):
    def __init__(self, place):
        RiseError.__init__(self, f"the signs end at place {place}, ahead of the row's end")
        self.place = place


class Wrong(RiseError):
    def __init__(self, place):
        RiseError.__init__(self, f"no row goes on with the sign at place {place}")
        self.place = place


class Left(RiseError):
    def __init__(self, place):
        RiseError.__init__(self, f"the signs go on at place {place}, behind the row's end")
        self.place = place


class NoForm(RiseError):
    pass


class NoText(RiseError):
    pass


class NotAhead(RiseError):
    pass


class BadPage(RiseError):
    pass


class Twice(RiseError):
    pass


class Lacking(RiseError):
    pass
