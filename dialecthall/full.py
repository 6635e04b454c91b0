"""Whether a dialect writes every table, or a smallest row that it does not."""

from dialecthall.pairs import signs_for
from dialecthall.search import search, text_to
from dialecthall.states import START
from dialecthall.turns import Turn


# A place is a sorted tuple: the states in which some text may end that puts out just the signs of one cell. Whether
# this cell can be written with a step of the kind behind it hangs on these states alone, not on the cells ahead.
class Cells:
    def __init__(self, dialect, kind):
        self.turn = Turn(dialect)
        self.kind = kind
        self.signs = signs_for([dialect])

    def with_skips(self, states):
        found = list(states)
        at = 0
        while at < len(found):
            for sign in self.signs:
                step = self.turn.step(found[at], sign)
                if step[0] == "skip" and step[1] not in found:
                    found.append(step[1])
            at = at + 1
        return found

    def leads(self, place):
        states = self.with_skips(place)
        found = []
        for sign in self.signs:
            steps = [self.turn.step(state, sign) for state in states]
            found.append((sign, tuple(sorted(set([step[1] for step in steps if step[0] == "put"])))))
        return found

    # Wanted is a cell that can't be written.
    def is_good(self, place):
        for state in self.with_skips(place):
            if any([self.turn.step(state, sign)[0] == self.kind for sign in self.signs]):
                return False
        return True


def lacking_cell(dialect, kind):
    found = search((START,), Cells(dialect, kind))
    if found[0] is None:
        return None
    return text_to(found[1], found[0])


def full(dialect):
    parted = lacking_cell(dialect, "part")
    # Where a part may stand an end may, too: a cell that lacks an end lacks a part.
    if parted is None:
        return None
    last = lacking_cell(dialect, "end")
    if last is not None and len(last) == len(parted):
        return [[last]]
    return [[parted, ""]]
