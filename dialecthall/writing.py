"""Writing: a shortest text that a dialect reads as a table."""

from dialecthall.errors import NoWriting
from dialecthall.marks import Marker
from dialecthall.search import search, text_to
from dialecthall.signs import LINE, once
from dialecthall.states import START
from dialecthall.tokens import END, PART, tokens_of


# A place is a mark that is not None.
class Writer:
    def __init__(self, dialect, tokens):
        self.marker = Marker(dialect, tokens)
        self.tokens = tokens
        self.usual = dialect.special() + LINE + " "

    # Where all tokens are put out, the search is over; so one comes next here. Of the signs that are none of the usual
    # ones only its own can put it out.
    def leads(self, place):
        signs = once(self.usual + self.tokens[place[1]][1])
        found = [(sign, self.marker.mark_behind(place, sign)) for sign in signs]
        return [lead for lead in found if lead[1] is not None]

    def is_good(self, place):
        return self.marker.has_read_all(place)


def cell_at(tokens, count):
    row = 0
    cell = 0
    for token in tokens[:count]:
        if token == PART:
            cell = cell + 1
        elif token == END:
            row = row + 1
            cell = 0
    return (row, cell)


def shortest(dialect, table):
    tokens = tokens_of(table)
    found = search((START, 0), Writer(dialect, tokens))
    came = found[1]
    if found[0] is None:
        lacking = cell_at(tokens, max([place[1] for place in came]))
        raise NoWriting(lacking[0], lacking[1])
    return text_to(came, found[0])
