"""What several tests need: things of all kinds, and a second way to read, written from the document alone."""

import functools

from dialecthall.dialects import Dialect
from dialecthall.errors import Broken, DialectError, NoName, NoWriting, TooMany

LINE = "\n"
PRINTABLE = "".join(chr(number) for number in range(32, 127) if number != 37)
SIGNS = LINE + PRINTABLE
NO_SIGNS = "".join(chr(number) for number in range(128) if chr(number) not in SIGNS)

TRUTHS = [(twin, wide, thin, stray)
          for twin in (False, True) for wide in (False, True)
          for thin in (False, True) for stray in (False, True)]

# Parts, quotes and frees: signs of one role each, then signs of several, and blanks that have a role.
ROLES = [(",", "", ""), (",", "'", ""), (",", "", "^"), (",", "'", "^"),
         ("'", "'", ""), (",'", "'", ""), (",", "'", "'"), (",", "", ","), (",;", "'", ","), (",", "'", ",^"),
         ("a", "a", "a"), (",'", "'", "'"),
         (" ", "'", ""), (", ", "'", "^"), (",", " ", ""), (",", "' ", "^"), (",", "'", " "), (" ", " ", " "),
         (",", "'\"", "'"), (",", "'\"", ""), (",\"", "'\"", "\"")]
SMALL = [told + truths for told in ROLES for truths in TRUTHS]


FIELDS = {NoName: ("name",), TooMany: ("most",), Broken: ("row", "place", "word"), NoWriting: ("row", "cell")}


class Anything:
    """A thing that says that it is like any other one."""
    def __eq__(self, other):
        return True

    def __hash__(self):
        return 0


def refusal(call, *handed, **named):
    """The refusal's class and behind it the fields that the document tells of it; None where nothing is refused."""
    try:
        call(*handed, **named)
    except DialectError as error:
        return (error.__class__,) + tuple(getattr(error, field) for field in FIELDS.get(error.__class__, ()))
    return None


def things_but_texts():
    return [None, True, False, 0, 1, -1, 44, 1.5, 2 ** 70, [], [","], ["a", "b"], [["a"]], (), (",",), ("a", "b"),
            {}, {",": ","}, {0: "a"}, set(), {","}, frozenset(","), b"", b",", bytearray(b","), range(2), object(),
            len, str, ValueError("a"), iter("a")]


def things_but_lists():
    return [thing for thing in things_but_texts() if not isinstance(thing, list)] + ["", "a", ",", LINE, "[['a']]"]


def things_but_truths():
    return [thing for thing in things_but_texts() if not isinstance(thing, bool)] + ["", "a", "True", "False", "1"]


def things_but_tables():
    """Things of other kinds, and lists that are no tables by one row, cell or sign."""
    things = things_but_lists()
    things += [[thing] for thing in things_but_lists()] + [[["a"], thing, ["b"]] for thing in things_but_lists()]
    things += [[[thing]] for thing in things_but_texts()] + [[["a", thing], ["b"]] for thing in things_but_texts()]
    things += [[["a" + sign]] for sign in NO_SIGNS] + [[["a", "b"], ["c", sign]] for sign in NO_SIGNS]
    things += [[[]], [["a"], []], [[], ["a"]], [["a"]] * 61, [["a"] * 21], [["a"], [""] * 21], [["a" * 401]],
               [["a" * 200], ["b", "c" * 200]], [["a" * 20] * 20, [" "]], [["a" * 2001]], [[["a"]]]]
    ring = []
    ring.append(ring)
    return things + [ring]


def frees_nothing_ahead(told, state, sign):
    """The steps of row, cell and plain behind their first rule."""
    parts, quotes, frees, twin, wide, thin, stray = told
    begins = state[0] != "plain"
    rules = [
        (sign == LINE, ("end", ("row", ""))),
        (begins and sign in quotes, ("skip", ("within", sign))),
        (sign in parts, ("part", ("cell", ""))),
        (begins and sign == " " and thin, ("skip", state)),
        (not begins and sign in quotes and not stray, ("fault", "quote")),
        (True, ("put", ("plain", ""))),
    ]
    return [step for holds, step in rules if holds][0]


@functools.lru_cache(maxsize=None)
def model_step(told, state, sign):
    """The step of point 22, as a list of rules of which the first one that holds counts."""
    parts, quotes, frees, twin, wide, thin, stray = told
    word, quote = state
    closed = [
        (sign == LINE, ("end", ("row", ""))),
        (sign in parts, ("part", ("cell", ""))),
        (sign == " " and thin, ("skip", ("behind", ""))),
        (True, ("fault", "behind")),
    ]
    rules = {
        "within": [
            (sign in frees, ("skip", ("freed", quote))),
            (sign == quote and twin, ("skip", ("doubt", quote))),
            (sign == quote, ("skip", ("behind", ""))),
            (sign == LINE and not wide, ("fault", "line")),
            (True, ("put", ("within", quote))),
        ],
        "doubt": [(sign == quote, ("put", ("within", quote)))] + closed,
        "behind": closed,
        "freed": [
            (sign == LINE and not wide, ("fault", "line")),
            (quote == "", ("put", ("plain", ""))),
            (True, ("put", ("within", quote))),
        ],
    }
    if word in rules:
        return [step for holds, step in rules[word] if holds][0]
    if sign in frees:
        return ("skip", ("freed", ""))
    return frees_nothing_ahead(told, state, sign)


def model_walk(told, text, state=("row", "")):
    """(kinds, table, state, word): word is None where no step failed."""
    kinds, table, row, cell = [], [], [], ""
    for sign in text:
        kind, behind = model_step(told, state, sign)
        if kind == "fault":
            return kinds, table, state, behind
        kinds.append(kind)
        state = behind
        if kind == "put":
            cell += sign
        if kind in ("part", "end"):
            row, cell = row + [cell], ""
        if kind == "end":
            table, row = table + [row], []
    return kinds, table, state, None


def model_far(told, text):
    """What point 34 asks: (place, row, word), or None."""
    kinds, table, state, word = model_walk(told, text)
    if word is None and state == ("row", ""):
        return None
    return (len(kinds), len(table), word or "cut")


def model_table(told, text):
    """The table as which a text is read, None where it fails."""
    return model_walk(told, text)[1] if model_far(told, text) is None else None


def model_states(told):
    states = [("row", ""), ("cell", ""), ("plain", ""), ("behind", ""), ("freed", "")]
    for quote in told[1]:
        states += [("within", quote), ("doubt", quote), ("freed", quote)]
    return states


def signs_that_tell(told):
    """All special signs, LINE, the blank and another one: any further sign steps like the last one."""
    signs = told[0] + told[1] + told[2] + LINE + " "
    return "".join(dict.fromkeys(signs + [sign for sign in "abcdefghij" if sign not in signs][0]))


@functools.lru_cache(maxsize=None)
def model_length(told, state):
    """How many signs lead from a state to row at the least, found by trying all; None where none do."""
    seen, edge, length = {state}, [state], 0
    while edge:
        if ("row", "") in edge:
            return length
        steps = [model_step(told, state, sign) for state in edge for sign in signs_that_tell(told)]
        edge = [behind for kind, behind in steps if kind != "fault" and behind not in seen]
        edge = list(dict.fromkeys(edge))
        seen.update(edge)
        length += 1
    return None


def all_texts(signs, most):
    """Each text of these signs with at most so many of them."""
    texts, longest = [""], [""]
    for length in range(most):
        longest = [text + sign for text in longest for sign in signs]
        texts += longest
    return texts


def model_tokens(table):
    """(token, row, cell) for each token of a table."""
    told = []
    for row, cells in enumerate(table):
        for cell, signs in enumerate(cells):
            told += [(("put", sign), row, cell) for sign in signs]
            told.append((("part", "") if cell < len(cells) - 1 else ("end", ""), row, cell))
    return told


def skipped_on(told, lengths, signs):
    """The lengths of shortest texts to each state, where more signs may come that put out nothing."""
    lengths, before = dict(lengths), None
    while lengths != before:
        before = dict(lengths)
        for state, length in before.items():
            for sign in signs:
                kind, behind = model_step(told, state, sign)
                if kind == "skip" and model_length(told, behind) is not None:
                    lengths[behind] = min(lengths.get(behind, length + 1), length + 1)
    return lengths


def model_writing(told, table):
    """("text", how long the shortest text of a table is), or ("none", row, cell), token by token."""
    signs = dict.fromkeys(signs_that_tell(told) + "".join("".join(row) for row in table))
    lengths = {("row", ""): 0}
    for token, row, cell in model_tokens(table):
        further = {}
        for state, length in skipped_on(told, lengths, signs).items():
            for sign in signs:
                kind, behind = model_step(told, state, sign)
                if (kind, sign if kind == "put" else "") == token and model_length(told, behind) is not None:
                    further[behind] = min(further.get(behind, length + 1), length + 1)
        if not further:
            return ("none", row, cell)
        lengths = further
    return ("text", lengths[("row", "")])


def texts_that_go_on(told, signs, most):
    """(text, state, table) for each text of these signs, of so many of them at most, at which no step fails."""
    edge = [("", ("row", ""), [[""]])]
    for length in range(most + 1):
        yield from ((text, state, rows[:-1]) for text, state, rows in edge)
        farther = []
        for text, state, rows in edge:
            for sign in signs:
                kind, behind = model_step(told, state, sign)
                if kind != "fault":
                    farther.append((text + sign, behind, rows_behind(rows, kind, sign)))
        edge = farther


def rows_behind(rows, kind, sign):
    if kind == "end":
        return rows + [[""]]
    if kind == "part":
        return rows[:-1] + [rows[-1] + [""]]
    return rows[:-1] + [rows[-1][:-1] + [rows[-1][-1] + (sign if kind == "put" else "")]]


def lengths_of_tables(told, most):
    """Of each table that some text of at most so many signs is read as: how long the shortest one is."""
    lengths = {}
    for text, state, table in texts_that_go_on(told, signs_that_tell(told), most):
        if state == ("row", ""):
            lengths.setdefault(tuple(tuple(row) for row in table), len(text))
    return lengths


def some_told(chance, signs=",'^ab "):
    """A dialect by chance, told as a tuple; its signs have any roles."""
    texts = ["".join(chance.sample(signs, chance.randint(least, min(most, len(signs)))))
             for least, most in ((1, 3), (0, 2), (0, 2))]
    return tuple(texts) + chance.choice(TRUTHS)


def made(all_told):
    return [Dialect(*told) for told in all_told]


def turned(told, place):
    """The same dialect with one of its truths the other way."""
    return told[:place] + (not told[place],) + told[place + 1:]


def about(told):
    """The same dialect with its signs in another order."""
    return (told[0][::-1], told[1][::-1], told[2][::-1]) + told[3:]


def model_fall(told, text, even):
    """(at, row, word) of point 52, None where the text is taken."""
    kinds, table, state, word = model_walk(told, text)
    ends = [at for at, kind in enumerate(kinds) if kind == "end"]
    for row, at in enumerate(ends):
        if even and len(table[row]) != len(table[0]):
            return (at, row, "uneven")
    return model_far(told, text)


def signs_of_two(one, other):
    """The signs of both that have a role, LINE, the blank and another one."""
    signs = "".join(one[:3] + other[:3]) + LINE + " "
    return "".join(dict.fromkeys(signs + [sign for sign in "abcdefghijklmnopqrst" if sign not in signs][0]))


def model_pairs(one, other):
    """All pairs of live states to which some text of any signs leads."""
    found = [(("row", ""), ("row", ""))]
    for first, second in found:
        for sign in SIGNS:
            steps = model_step(one, first, sign), model_step(other, second, sign)
            pair = steps[0][1], steps[1][1]
            if "fault" not in (steps[0][0], steps[1][0]) and pair not in found:
                if model_length(one, pair[0]) is not None and model_length(other, pair[1]) is not None:
                    found.append(pair)
    return found


def model_alike(one, other, pairs):
    """Point 63 for a list of pairs of live states, by the steps of the model."""
    for first, second in pairs:
        if (first == ("row", "")) != (second == ("row", "")):
            return False
        for sign in signs_of_two(one, other):
            steps = [model_step(one, first, sign), model_step(other, second, sign)]
            ends = [kind == "fault" or model_length(told, behind) is None
                    for told, (kind, behind) in zip((one, other), steps)]
            if ends == [True, True]:
                continue
            if True in ends or steps[0][0] != steps[1][0] or (steps[0][1], steps[1][1]) not in pairs:
                return False
    return (("row", ""), ("row", "")) in pairs


@functools.lru_cache(maxsize=None)
def are_alike(one, other):
    return model_alike(one, other, model_pairs(one, other))


def model_groups(all_told):
    """Each place beside all that are alike to it; sorted by the first one."""
    found = []
    for place in range(len(all_told)):
        group = [other for other in range(len(all_told)) if are_alike(all_told[place], all_told[other])]
        if group not in found:
            found.append(group)
    return found


def lists_of_told(chance, many):
    """Lists of none to twelve dialects, some of them alike."""
    for again in range(many):
        signs = chance.choice([",'^ a", ",'", ",;", "ab "])
        some = [some_told(chance, signs) for told in range(chance.randrange(1, 7))]
        some += [about(told) for told in some] + [turned(told, chance.randrange(3, 7)) for told in some] + some
        chance.shuffle(some)
        yield some[:again % 13]


def read_on(told, reader, sign):
    """A reader is (state, rows), the last of these not ended; None is one that has failed."""
    if reader is None:
        return None
    kind, behind = model_step(told, reader[0], sign)
    return None if kind == "fault" else (behind, rows_behind(reader[1], kind, sign))


def text_read_unlike(one, other, signs, most):
    """A text of these signs, at most so many, that both read unlike, found by trying them all; else None."""
    edge = [("", (("row", ""), [[""]]), (("row", ""), [[""]]))]
    for length in range(most + 1):
        for text, first, second in edge:
            tables = [reader[1] if reader and reader[0] == ("row", "") else None for reader in (first, second)]
            if tables[0] != tables[1]:
                return text
        if length < most:
            edge = [(text + sign, read_on(one, first, sign), read_on(other, second, sign))
                    for text, first, second in edge for sign in signs]
            edge = [place for place in edge if place[1:] != (None, None)]
    return None


def signs_of_sole(told, table, others):
    """The signs that count by point 72."""
    texts = list(told[:3]) + [text for other in others for text in other[:3]] + [LINE, " "]
    return "".join(dict.fromkeys("".join(texts) + "".join("".join(row) for row in table)))


def model_mark(told, tokens, mark, sign):
    """The mark (state, count) of a reader behind a sign, None for a lost one."""
    if mark is None:
        return None
    kind, behind = model_step(told, mark[0], sign)
    if kind == "fault" or model_length(told, behind) is None:
        return None
    if kind == "skip":
        return (behind, mark[1])
    wanted = tokens[mark[1]:mark[1] + 1]
    return (behind, mark[1] + 1) if wanted == [(kind, sign if kind == "put" else "")] else None


def model_leads(told, table, others, place):
    """The places to which a place leads on, each once."""
    tokens = [token for token, row, cell in model_tokens(table)]
    found = []
    for sign in signs_of_sole(told, table, others):
        mark = model_mark(told, tokens, place[:2], sign)
        if mark is not None:
            marks = tuple(model_mark(other, tokens, one, sign) for other, one in zip(others, place[2]))
            found.append(mark + (marks,))
    return list(dict.fromkeys(found))


def model_good(table, place):
    read = (("row", ""), len(model_tokens(table)))
    return place[:2] == read and read not in place[2]


def model_sole(told, table, others):
    """(how many signs a shortest sole text has, None where there is none; the places that shorter texts come to)."""
    first = (("row", ""), 0, ((("row", ""), 0),) * len(others))
    places, edge, length = {}, {first: True}, 0
    while edge:
        if any(model_good(table, place) for place in edge):
            return length, list(places)
        places.update(edge)
        edge = {lead: True for place in edge for lead in model_leads(told, table, others, place) if lead not in places}
        length += 1
    return None, list(places)


def begins(table, rows):
    """Whether these rows, of which the last one and its last cell may go on, can still come to be this table."""
    ended, row = rows[:-1], rows[-1]
    if ended != table[:len(ended)]:
        return False
    wanted = (table + [[""]])[len(ended)]
    if len(row) > len(wanted) or row[:-1] != wanted[:len(row) - 1]:
        return False
    return wanted[len(row) - 1].startswith(row[-1])


def sole_text(told, table, others, signs, most):
    """A sole text of these signs, at most so many, found by trying all that the dialect may read so; else None."""
    edge = [("", ("row", ""), [[""]])]
    for length in range(most + 1):
        for text, state, rows in edge:
            if state == ("row", "") and rows[:-1] == table and table not in [model_table(one, text) for one in others]:
                return text
        if length < most:
            farther = [(text + sign, read_on(told, (state, rows), sign))
                       for text, state, rows in edge for sign in signs]
            edge = [(text,) + reader for text, reader in farther if reader and begins(table, reader[1])]
    return None
