"""Going on: what has to follow a text so that both together are read."""

from dialecthall.reading import walk
from dialecthall.states import ending


def go_on(dialect, text):
    walked = walk(dialect, text)
    if walked[2] is not None:
        return None
    return ending(dialect, walked[1])
