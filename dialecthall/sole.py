"""Texts for one alone: a dialect reads them as a table, and none of some others does."""

from dialecthall.errors import NoMost, TooMany
from dialecthall.places import Places, first_place
from dialecthall.search import search, text_to
from dialecthall.signs import is_whole
from dialecthall.tokens import tokens_of

MOST_TOKENS = 24
MOST_OTHERS = 3
MOST_PLACES = 4000


def check_asked(table, others, most):
    if len(tokens_of(table)) > MOST_TOKENS:
        raise TooMany(MOST_TOKENS)
    if len(others) > MOST_OTHERS:
        raise TooMany(MOST_OTHERS)
    if not is_whole(most, 1, MOST_PLACES):
        raise NoMost("most is a whole number from 1 to 4000")


def sole(dialect, table, others, most):
    check_asked(table, others, most)
    found = search(first_place(others), Places(dialect, table, others), most)
    came = found[1]
    if found[0] is not None:
        return ("text", text_to(came, found[0]))
    if len(came) > most:
        return ("open",)
    return ("none", list(came))
