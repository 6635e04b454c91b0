"""Papers: whether a list of places shows that there is no sole text, and whether a text is one."""

from dialecthall.places import Places, first_place
from dialecthall.reading import reading_of
from dialecthall.signs import is_text, is_whole
from dialecthall.states import is_live_state
from dialecthall.tokens import tokens_of


def is_mark(dialect, most, thing):
    if not isinstance(thing, tuple) or len(thing) != 2:
        return False
    return is_live_state(dialect, thing[0]) and is_whole(thing[1], 0, most)


def are_marks(others, most, thing):
    if not isinstance(thing, tuple) or len(thing) != len(others):
        return False
    return all([mark is None or is_mark(other, most, mark) for other, mark in zip(others, thing)])


def is_place(dialect, others, most, thing):
    if not isinstance(thing, tuple) or len(thing) != 3:
        return False
    return is_mark(dialect, most, thing[:2]) and are_marks(others, most, thing[2])


def is_none(dialect, table, others, places):
    most = len(tokens_of(table))
    if not isinstance(places, list) or not all([is_place(dialect, others, most, place) for place in places]):
        return False
    known = {}
    for place in places:
        known[place] = True
    if first_place(others) not in known:
        return False
    searched = Places(dialect, table, others)
    for place in known:
        if searched.is_good(place) or not all([lead[1] in known for lead in searched.leads(place)]):
            return False
    return True


def is_sole(dialect, table, others, text):
    if not is_text(text) or reading_of(dialect, text) != table:
        return False
    return not any([reading_of(other, text) == table for other in others])
