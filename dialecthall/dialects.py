"""Dialects: the seven things by which a text is read."""

from dialecthall.errors import NoDialect
from dialecthall.signs import is_printable, once


def are_unlike_signs(thing, least, most):
    if not isinstance(thing, str) or len(thing) < least or len(thing) > most:
        return False
    return all([is_printable(sign) and thing.count(sign) == 1 for sign in thing])


class Dialect:
    def __init__(self, parts, quotes="", frees="", twin=False, wide=False, thin=False, stray=False):
        if not are_unlike_signs(parts, 1, 3):
            raise NoDialect("parts are one to three printable signs, unlike")
        if not are_unlike_signs(quotes, 0, 2):
            raise NoDialect("quotes are none to two printable signs, unlike")
        if not are_unlike_signs(frees, 0, 2):
            raise NoDialect("frees are none to two printable signs, unlike")
        for truth in (twin, wide, thin, stray):
            if not isinstance(truth, bool):
                raise NoDialect("twin, wide, thin and stray are truths")
        self.parts = parts
        self.quotes = quotes
        self.frees = frees
        self.twin = twin
        self.wide = wide
        self.thin = thin
        self.stray = stray

    def told(self):
        return (self.parts, self.quotes, self.frees, self.twin, self.wide, self.thin, self.stray)

    def special(self):
        return once(self.parts + self.quotes + self.frees)


def dialect_of(told):
    if not isinstance(told, tuple) or len(told) != 7:
        raise NoDialect("a dialect is told as a tuple of seven")
    return Dialect(told[0], told[1], told[2], told[3], told[4], told[5], told[6])
