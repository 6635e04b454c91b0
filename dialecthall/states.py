"""The states in which a reader may be, and how each leads on to the beginning of a row."""

from dialecthall.signs import LINE

START = ("row", "")


def states_of(dialect):
    states = [START, ("cell", ""), ("plain", ""), ("behind", ""), ("freed", "")]
    for quote in dialect.quotes:
        states.extend([("within", quote), ("doubt", quote), ("freed", quote)])
    return states


def is_live(dialect, state):
    # The quote "" has no sign, yet stands in every text: it must not be looked for in frees.
    if state[1] == "" or state[0] == "doubt":
        return True
    return state[1] not in dialect.frees


def ending(dialect, state):
    if not is_live(dialect, state):
        return None
    if state == START:
        return ""
    if state[0] == "within":
        return state[1] + LINE
    if state[0] == "freed":
        # Any sign but LINE may be freed by every dialect.
        return "a" + state[1] + LINE
    return LINE


# Whatever is handed in may be asked about.
def is_live_state(dialect, thing):
    if not isinstance(thing, tuple) or len(thing) != 2:
        return False
    if not isinstance(thing[0], str) or not isinstance(thing[1], str):
        return False
    return thing in states_of(dialect) and is_live(dialect, thing)
