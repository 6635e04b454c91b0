"""Writing: a shortest text that a dialect reads as a table."""

from dialecthall.errors import NoWriting
from dialecthall.search import search, text_to
from dialecthall.signs import LINE, once
from dialecthall.states import START
from dialecthall.tokens import END, PART, count_behind, tokens_of
from dialecthall.turns import Turn


# A place is (state, count): the state behind some text, and how many of the tokens it has put out.
class Writer:
    def __init__(self, dialect, tokens):
        self.turn = Turn(dialect)
        self.tokens = tokens
        self.usual = dialect.special() + LINE + " "

    # Where all tokens are put out, the search is over; so one comes next here. Of the signs that are none of the usual
    # ones only its own can put it out.
    def leads(self, place):
        found = []
        for sign in once(self.usual + self.tokens[place[1]][1]):
            step = self.turn.live_step(place[0], sign)
            if step is not None:
                count = count_behind(self.tokens, place[1], step[0], sign)
                if count is not None:
                    found.append((sign, (step[1], count)))
        return found

    def is_good(self, place):
        return place == (START, len(self.tokens))


def cell_at(tokens, count):
    row = 0
    cell = 0
    for token in tokens[:count]:
        if token == PART:
            cell = cell + 1
        elif token == END:
            row = row + 1
            cell = 0
    return (row, cell)


def shortest(dialect, table):
    tokens = tokens_of(table)
    found = search((START, 0), Writer(dialect, tokens))
    came = found[1]
    if found[0] is None:
        lacking = cell_at(tokens, max([place[1] for place in came]))
        raise NoWriting(lacking[0], lacking[1])
    return text_to(came, found[0])
