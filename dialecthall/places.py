"""Places: how far a dialect and some others have come with a table, behind one text."""

from dialecthall.marks import Marker
from dialecthall.signs import LINE, once
from dialecthall.states import START
from dialecthall.tokens import tokens_of


def first_place(others):
    return (START, 0, tuple([(START, 0) for other in others]))


# Any other sign can but be put by the dialect, and no token of the table asks for that.
def signs_that_count(dialect, table, others):
    special = "".join([each.special() for each in [dialect] + others])
    cells = "".join(["".join(row) for row in table])
    return once(special + LINE + " " + cells)


# A place is (state, count, marks): the dialect's own mark, and those of the others.
class Places:
    def __init__(self, dialect, table, others):
        tokens = tokens_of(table)
        self.marker = Marker(dialect, tokens)
        self.markers = [Marker(other, tokens) for other in others]
        self.signs = signs_that_count(dialect, table, others)

    def leads(self, place):
        found = []
        for sign in self.signs:
            mark = self.marker.mark_behind(place[:2], sign)
            if mark is not None:
                marks = [marker.mark_behind(other, sign) for marker, other in zip(self.markers, place[2])]
                found.append((sign, mark + (tuple(marks),)))
        return found

    # Wanted is a sole text: the dialect alone has read the whole table.
    def is_good(self, place):
        if not self.marker.has_read_all(place[:2]):
            return False
        return not any([marker.has_read_all(mark) for marker, mark in zip(self.markers, place[2])])
