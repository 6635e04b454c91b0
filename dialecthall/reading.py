"""Reading: a text by a dialect, from its first sign to its last or to the one at which it fails."""

from dialecthall.errors import Broken, NoText
from dialecthall.signs import is_text
from dialecthall.states import START
from dialecthall.turns import Turn


def check_text(thing):
    if not is_text(thing):
        raise NoText("a text has at most 2000 signs, none but LINE and the printable ones of ASCII, without number 37")


# Told is (kinds, state, word): the kinds of all steps that did not fail, the state behind the last of these, and the
# word of the step that failed, None where none did.
def walk(dialect, text):
    check_text(text)
    turn = Turn(dialect)
    kinds = []
    state = START
    for sign in text:
        step = turn.step(state, sign)
        if step[0] == "fault":
            return (kinds, state, step[1])
        kinds.append(step[0])
        state = step[1]
    return (kinds, state, None)


def end_of(walked):
    kinds = walked[0]
    word = walked[2]
    if word is None and walked[1] == START:
        return None
    return (len(kinds), kinds.count("end"), "cut" if word is None else word)


def read(dialect, text):
    walked = walk(dialect, text)
    far = end_of(walked)
    if far is not None:
        raise Broken(far[1], far[0], far[2])
    return table_of(text, walked[0])


def kinds_of(dialect, text):
    return walk(dialect, text)[0]


def table_of(text, kinds):
    table = []
    row = []
    cell = ""
    for sign, kind in zip(text, kinds):
        if kind == "put":
            cell = cell + sign
        elif kind == "part":
            row.append(cell)
            cell = ""
        elif kind == "end":
            row.append(cell)
            table.append(row)
            row = []
            cell = ""
    return table


def furthest(dialect, text):
    return end_of(walk(dialect, text))


# The table as which a text is read, None where it fails: all failings are alike.
def reading_of(dialect, text):
    walked = walk(dialect, text)
    if end_of(walked) is not None:
        return None
    return table_of(text, walked[0])
