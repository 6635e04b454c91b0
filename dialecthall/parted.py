"""Two dialects: the pairs of states by which they are alike, or a shortest text that they read unlike."""

from dialecthall.pairs import Couple
from dialecthall.search import search, text_to
from dialecthall.states import START

NOTHING_MORE = ((), ())


def put_out(kind, sign):
    if kind == "skip":
        return ()
    return ((kind, sign if kind == "put" else ""),)


# more has, for each of the two, the tokens that it has put out and the other one not yet: what one puts out sooner,
# the other may put out later. None, where both have no table in common whatever follows, stays None.
def more_behind(more, steps, sign):
    if more is None or steps[0] is None or steps[1] is None:
        return None
    one = more[0] + put_out(steps[0][0], sign)
    other = more[1] + put_out(steps[1][0], sign)
    if one == () or other == ():
        return (one, other)
    return (one[1:], other[1:]) if one[0] == other[0] else None


# A place is (pair, more): the states of both behind some text, None for one that has failed or can't come to row any
# more; and what more the one or the other has put out.
class Parting:
    def __init__(self, one, other):
        self.couple = Couple(one, other)

    def leads(self, place):
        found = []
        for sign in self.couple.signs:
            steps = self.couple.steps(place[0], sign)
            if steps != (None, None):
                pair = tuple([None if step is None else step[1] for step in steps])
                found.append((sign, (pair, more_behind(place[1], steps, sign))))
        return found

    # Wanted is a text that both read unlike.
    def is_good(self, place):
        if place[0] == (START, START):
            return place[1] != NOTHING_MORE
        return START in place[0]


def compare(one, other):
    found = search(((START, START), NOTHING_MORE), Parting(one, other))
    came = found[1]
    if found[0] is not None:
        return ("parted", text_to(came, found[0]))
    # Behind two steps of unlike kinds there is always a text that parts the two. So here both have put out the same
    # all the time, and no pair stands at two places.
    return ("alike", [place[0] for place in came])
