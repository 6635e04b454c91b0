"""The desk: it is told texts, keeps dialects by their names, and answers with texts."""

from dialecthall.asking import Asker
from dialecthall.endings import go_on
from dialecthall.errors import NoAsk, NoName, NoRow, NoWriting, TooMany
from dialecthall.finder import finding
from dialecthall.full import full
from dialecthall.groups import groups, telling
from dialecthall.parted import compare
from dialecthall.reading import check_text, furthest, kinds_of, reading_of
from dialecthall.rows import dialect_in, house_table, house_text, is_name, row_of
from dialecthall.signs import LINE
from dialecthall.sole import sole
from dialecthall.writing import shortest

MOST_KEPT = 12
MOST_MORE_NAMES = 12
MOST_FIGURES = 5
FIGURES = "0123456789"

# How many names stand behind the first word; sole and a dialect's row are looked at by themselves.
MANY_NAMES = {"drop": 1, "names": 0, "row": 1, "read": 1, "kinds": 1, "go": 1, "write": 1, "full": 1, "compare": 2,
              "find": 0, "even": 0, "groups": 0, "telling": 0, "asker": 0, "ask": 0, "hear": 0, "fail": 0, "left": 0,
              "heard": 0}
WITH_A_REST = ("read", "kinds", "go", "write", "sole", "find", "even", "hear")


def is_most(word):
    if len(word) < 1 or len(word) > MOST_FIGURES or (word[0] == "0" and word != "0"):
        return False
    return all([sign in FIGURES for sign in word])


# None where these words are none of the rows.
def names_in(words):
    if words[0] == "sole":
        names = words[2:]
        if len(names) < 1 or len(names) > 1 + MOST_MORE_NAMES or not is_most(words[1]):
            return None
        return names
    if words[0] in MANY_NAMES and len(words) == 1 + MANY_NAMES[words[0]]:
        return words[1:]
    return None


def joined(things):
    return " ".join([str(thing) for thing in things])


def joined_names(names):
    return "-" if names == [] else " ".join(names)


def with_lines(word, text):
    return word + LINE + text


def answer_to_dialect(desk, row):
    found = dialect_in(row)
    if found[0] not in desk.kept and len(desk.kept) >= MOST_KEPT:
        raise TooMany(MOST_KEPT)
    # One that is kept by this name already keeps its place among the others.
    desk.kept[found[0]] = found[1]
    return "ok"


def answer_to_drop(desk, words, rest):
    desk.kept.pop(words[1])
    return "ok"


def answer_to_names(desk, words, rest):
    return joined_names(list(desk.kept))


def answer_to_row(desk, words, rest):
    return row_of(words[1], desk.kept[words[1]])


def answer_to_read(desk, words, rest):
    dialect = desk.kept[words[1]]
    far = furthest(dialect, rest)
    if far is not None:
        return joined(["broken", far[1], far[0], far[2]])
    return with_lines("table", house_text(reading_of(dialect, rest)))


def answer_to_kinds(desk, words, rest):
    return joined_names(kinds_of(desk.kept[words[1]], rest))


def answer_to_go(desk, words, rest):
    text = go_on(desk.kept[words[1]], rest)
    return "none" if text is None else with_lines("text", text)


def answer_to_write(desk, words, rest):
    table = house_table(rest)
    try:
        text = shortest(desk.kept[words[1]], table)
    except NoWriting as lacking:
        return joined(["none", lacking.row, lacking.cell])
    return with_lines("text", text)


def answer_to_full(desk, words, rest):
    table = full(desk.kept[words[1]])
    return "all" if table is None else with_lines("lacks", house_text(table))


def answer_to_compare(desk, words, rest):
    found = compare(desk.kept[words[1]], desk.kept[words[2]])
    if found[0] == "alike":
        return joined(["alike", len(found[1])])
    return with_lines("parted", found[1])


def answer_to_sole(desk, words, rest):
    table = house_table(rest)
    found = sole(desk.kept[words[2]], table, [desk.kept[name] for name in words[3:]], int(words[1]))
    if found[0] == "text":
        return with_lines("text", found[1])
    if found[0] == "none":
        return joined(["none", len(found[1])])
    return "open"


def answer_to_find(desk, words, rest):
    names = list(desk.kept)
    found = finding(list(desk.kept.values()), rest, words[0] == "even")
    if found[0] == "read":
        return joined(["read"] + [names[taken[0]] for taken in found[1]])
    last = found[1]
    if last is None:
        return "none"
    return joined(["none", names[last[0]], last[1], last[2], last[3]])


def answer_to_groups(desk, words, rest):
    names = list(desk.kept)
    found = [joined([names[place] for place in group]) for group in groups(list(desk.kept.values()))]
    return "-" if found == [] else "; ".join(found)


def answer_to_telling(desk, words, rest):
    return house_text([[text] for text in telling(list(desk.kept.values()))])


def answer_to_asker(desk, words, rest):
    desk.asker = Asker(list(desk.kept.values()))
    # The names as they are now: later ones are none of this asker's.
    desk.asker_names = list(desk.kept)
    return "ok"


def asker_of(desk):
    if desk.asker is None:
        raise NoAsk("no asker was made")
    return desk.asker


def answer_to_ask(desk, words, rest):
    question = asker_of(desk).ask()
    return "none" if question is None else with_lines("text", question)


def answer_to_hear(desk, words, rest):
    asker = asker_of(desk)
    asker.hear(house_table(rest))
    return "ok"


def answer_to_fail(desk, words, rest):
    asker_of(desk).hear(None)
    return "ok"


def answer_to_left(desk, words, rest):
    return joined_names([desk.asker_names[place] for place in asker_of(desk).left()])


def answer_to_heard(desk, words, rest):
    return str(asker_of(desk).asked())


ANSWERS = {"drop": answer_to_drop, "names": answer_to_names, "row": answer_to_row, "read": answer_to_read,
           "kinds": answer_to_kinds, "go": answer_to_go, "write": answer_to_write, "full": answer_to_full,
           "compare": answer_to_compare, "sole": answer_to_sole, "find": answer_to_find, "even": answer_to_find,
           "groups": answer_to_groups, "telling": answer_to_telling, "asker": answer_to_asker, "ask": answer_to_ask,
           "hear": answer_to_hear, "fail": answer_to_fail, "left": answer_to_left, "heard": answer_to_heard}


class Desk:
    def __init__(self):
        self.kept = {}
        self.asker = None
        self.asker_names = []

    def say(self, text):
        check_text(text)
        cut = text.partition(LINE)
        words = cut[0].split(" ")
        if cut[2] != "" and words[0] not in WITH_A_REST:
            raise NoRow("no rest is told of this row")
        if words[0] == "dialect":
            return answer_to_dialect(self, cut[0])
        names = names_in(words)
        if names is None or not all([is_name(name) for name in names]):
            raise NoRow("this is none of the rows that a desk is told")
        for name in names:
            if name not in self.kept:
                raise NoName(name)
        return ANSWERS[words[0]](self, words, cut[2])
