"""Pairs of states, and texts: what shows that two dialects are alike, or that they are not."""

from dialecthall.reading import reading_of
from dialecthall.signs import LINE, is_text, once, others
from dialecthall.states import START, is_live_state
from dialecthall.turns import Turn


# All signs but those with a role, LINE and the blank step alike, so one of these others is enough.
def signs_for(dialects):
    signs = "".join([dialect.special() for dialect in dialects]) + LINE + " "
    return once(signs + others(signs, 1))


class Couple:
    def __init__(self, one, other):
        self.first = Turn(one)
        self.second = Turn(other)
        self.signs = signs_for([one, other])

    def steps(self, pair, sign):
        return (self.first.live_step(pair[0], sign), self.second.live_step(pair[1], sign))

    # For a pair of a list that shows that both are alike: nothing parts them here, and each sign leads on within it.
    def agrees_at(self, pair, known):
        if (pair[0] == START) != (pair[1] == START):
            return False
        for sign in self.signs:
            steps = self.steps(pair, sign)
            if steps != (None, None) and not is_known_step(steps, known):
                return False
        return True


def is_known_step(steps, known):
    if steps[0] is None or steps[1] is None:
        return False
    return steps[0][0] == steps[1][0] and (steps[0][1], steps[1][1]) in known


def is_pair(one, other, thing):
    if not isinstance(thing, tuple) or len(thing) != 2:
        return False
    return is_live_state(one, thing[0]) and is_live_state(other, thing[1])


def is_alike(one, other, pairs):
    if not isinstance(pairs, list) or not all([is_pair(one, other, pair) for pair in pairs]):
        return False
    known = {}
    for pair in pairs:
        known[pair] = True
    couple = Couple(one, other)
    return (START, START) in known and all([couple.agrees_at(pair, known) for pair in known])


def is_parted(one, other, text):
    return is_text(text) and reading_of(one, text) != reading_of(other, text)
