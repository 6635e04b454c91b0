"""Marks: how far a reader has come in putting out the tokens of a table."""

from dialecthall.states import START
from dialecthall.tokens import count_behind
from dialecthall.turns import Turn


# A mark is (state, count): the state behind some text, and how many of the tokens it has put out; None, where it has
# put out anything else, or can't come to row any more, stays None.
class Marker:
    def __init__(self, dialect, tokens):
        self.turn = Turn(dialect)
        self.tokens = tokens

    def mark_behind(self, mark, sign):
        if mark is None:
            return None
        step = self.turn.live_step(mark[0], sign)
        if step is None:
            return None
        count = count_behind(self.tokens, mark[1], step[0], sign)
        return None if count is None else (step[1], count)

    def has_read_all(self, mark):
        return mark == (START, len(self.tokens))
