"""The machine: what one sign does to a reader in some state."""

from dialecthall.dialects import dialect_of
from dialecthall.signs import LINE
from dialecthall.states import START, is_live


def step_at_beginning(dialect, state, sign):
    if sign in dialect.frees:
        return ("skip", ("freed", ""))
    if sign == LINE:
        return ("end", START)
    if sign in dialect.quotes:
        return ("skip", ("within", sign))
    if sign in dialect.parts:
        return ("part", ("cell", ""))
    if sign == " " and dialect.thin:
        return ("skip", state)
    return ("put", ("plain", ""))


def step_in_plain(dialect, sign):
    if sign in dialect.frees:
        return ("skip", ("freed", ""))
    if sign == LINE:
        return ("end", START)
    if sign in dialect.parts:
        return ("part", ("cell", ""))
    if sign in dialect.quotes and not dialect.stray:
        return ("fault", "quote")
    return ("put", ("plain", ""))


def step_within(dialect, quote, sign):
    if sign in dialect.frees:
        return ("skip", ("freed", quote))
    if sign == quote:
        return ("skip", ("doubt", quote) if dialect.twin else ("behind", ""))
    if sign == LINE and not dialect.wide:
        return ("fault", "line")
    return ("put", ("within", quote))


def step_behind(dialect, sign):
    if sign == LINE:
        return ("end", START)
    if sign in dialect.parts:
        return ("part", ("cell", ""))
    if sign == " " and dialect.thin:
        return ("skip", ("behind", ""))
    return ("fault", "behind")


def step_in_doubt(dialect, quote, sign):
    if sign == quote:
        return ("put", ("within", quote))
    return step_behind(dialect, sign)


def step_freed(dialect, quote, sign):
    if sign == LINE and not dialect.wide:
        return ("fault", "line")
    return ("put", ("plain", "") if quote == "" else ("within", quote))


class Turn:
    def __init__(self, dialect):
        # A dialect of its own: what is done to the one handed in changes no later step.
        self.dialect = dialect_of(dialect.told())

    def step(self, state, sign):
        word = state[0]
        quote = state[1]
        if word == "plain":
            return step_in_plain(self.dialect, sign)
        if word == "within":
            return step_within(self.dialect, quote, sign)
        if word == "doubt":
            return step_in_doubt(self.dialect, quote, sign)
        if word == "behind":
            return step_behind(self.dialect, sign)
        if word == "freed":
            return step_freed(self.dialect, quote, sign)
        return step_at_beginning(self.dialect, state, sign)

    # None where the reader fails, or comes to where no text leads back to row; so the state None is for one that has.
    def live_step(self, state, sign):
        if state is None:
            return None
        step = self.step(state, sign)
        if step[0] == "fault" or not is_live(self.dialect, step[1]):
            return None
        return step
