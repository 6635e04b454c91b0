"""Asking: whoever reads as one of some dialects does is found out by what he reads texts as."""

from dialecthall.dialects import dialect_of
from dialecthall.errors import NoAsk
from dialecthall.groups import check_many
from dialecthall.parted import compare
from dialecthall.reading import reading_of


# All that are alike to the first place are alike, so it is enough to hold the others against that one.
def text_that_parts(dialects, places):
    for place in places[1:]:
        found = compare(dialects[places[0]], dialects[place])
        if found[0] == "parted":
            return found[1]
    return None


class Asker:
    def __init__(self, dialects):
        check_many(dialects)
        # Dialects of its own: what is done to those handed in changes no later question.
        self.dialects = [dialect_of(dialect.told()) for dialect in dialects]
        self.places = list(range(len(dialects)))
        self.question = None
        self.heard = 0

    def ask(self):
        if self.question is None:
            self.question = text_that_parts(self.dialects, self.places)
        return self.question

    def hear(self, answer):
        if self.question is None:
            raise NoAsk("no question waits for an answer")
        self.places = [place for place in self.places if reading_of(self.dialects[place], self.question) == answer]
        self.question = None
        self.heard = self.heard + 1

    def left(self):
        return list(self.places)

    def asked(self):
        return self.heard
