"""What several tests need: things of all kinds, and a second way to read, written from the document alone."""

LINE = "\n"
PRINTABLE = "".join(chr(number) for number in range(32, 127) if number != 37)
SIGNS = LINE + PRINTABLE
NO_SIGNS = "".join(chr(number) for number in range(128) if chr(number) not in SIGNS)

TRUTHS = [(twin, wide, thin, stray)
          for twin in (False, True) for wide in (False, True)
          for thin in (False, True) for stray in (False, True)]


def things_but_texts():
    return [None, True, False, 0, 1, -1, 44, 1.5, 2 ** 70, [], [","], ["a", "b"], [["a"]], (), (",",), ("a", "b"),
            {}, {",": ","}, {0: "a"}, set(), {","}, frozenset(","), b"", b",", bytearray(b","), range(2), object(),
            len, str, ValueError("a"), iter("a")]


def things_but_lists():
    return [thing for thing in things_but_texts() if not isinstance(thing, list)] + ["", "a", ",", LINE, "[['a']]"]


def things_but_truths():
    return [thing for thing in things_but_texts() if not isinstance(thing, bool)] + ["", "a", "True", "False", "1"]


def frees_nothing_ahead(told, state, sign):
    """The steps of row, cell and plain behind their first rule."""
    parts, quotes, frees, twin, wide, thin, stray = told
    begins = state[0] != "plain"
    rules = [
        (sign == LINE, ("end", ("row", ""))),
        (begins and sign in quotes, ("skip", ("within", sign))),
        (sign in parts, ("part", ("cell", ""))),
        (begins and sign == " " and thin, ("skip", state)),
        (not begins and sign in quotes and not stray, ("fault", "quote")),
        (True, ("put", ("plain", ""))),
    ]
    return [step for holds, step in rules if holds][0]


def model_step(told, state, sign):
    """The step of point 22, as a list of rules of which the first one that holds counts."""
    parts, quotes, frees, twin, wide, thin, stray = told
    word, quote = state
    closed = [
        (sign == LINE, ("end", ("row", ""))),
        (sign in parts, ("part", ("cell", ""))),
        (sign == " " and thin, ("skip", ("behind", ""))),
        (True, ("fault", "behind")),
    ]
    rules = {
        "within": [
            (sign in frees, ("skip", ("freed", quote))),
            (sign == quote and twin, ("skip", ("doubt", quote))),
            (sign == quote, ("skip", ("behind", ""))),
            (sign == LINE and not wide, ("fault", "line")),
            (True, ("put", ("within", quote))),
        ],
        "doubt": [(sign == quote, ("put", ("within", quote)))] + closed,
        "behind": closed,
        "freed": [
            (sign == LINE and not wide, ("fault", "line")),
            (quote == "", ("put", ("plain", ""))),
            (True, ("put", ("within", quote))),
        ],
    }
    if word in rules:
        return [step for holds, step in rules[word] if holds][0]
    if sign in frees:
        return ("skip", ("freed", ""))
    return frees_nothing_ahead(told, state, sign)


def model_walk(told, text, state=("row", "")):
    """(kinds, table, state, word): word is None where no step failed."""
    kinds, table, row, cell = [], [], [], ""
    for sign in text:
        kind, behind = model_step(told, state, sign)
        if kind == "fault":
            return kinds, table, state, behind
        kinds.append(kind)
        state = behind
        if kind == "put":
            cell += sign
        if kind in ("part", "end"):
            row, cell = row + [cell], ""
        if kind == "end":
            table, row = table + [row], []
    return kinds, table, state, None


def model_far(told, text):
    """What point 34 asks: (place, row, word), or None."""
    kinds, table, state, word = model_walk(told, text)
    if word is None and state == ("row", ""):
        return None
    return (len(kinds), len(table), word or "cut")


def model_states(told):
    states = [("row", ""), ("cell", ""), ("plain", ""), ("behind", ""), ("freed", "")]
    for quote in told[1]:
        states += [("within", quote), ("doubt", quote), ("freed", quote)]
    return states


def signs_that_tell(told):
    """All special signs, LINE, the blank and another one: any further sign steps like the last one."""
    signs = told[0] + told[1] + told[2] + LINE + " "
    return "".join(dict.fromkeys(signs + [sign for sign in "abcdefghij" if sign not in signs][0]))


def model_length(told, state):
    """How many signs lead from a state to row at the least, found by trying all; None where none do."""
    seen, edge, length = {state}, [state], 0
    while edge:
        if ("row", "") in edge:
            return length
        steps = [model_step(told, state, sign) for state in edge for sign in signs_that_tell(told)]
        edge = [behind for kind, behind in steps if kind != "fault" and behind not in seen]
        edge = list(dict.fromkeys(edge))
        seen.update(edge)
        length += 1
    return None


def all_texts(signs, most):
    """Each text of these signs with at most so many of them."""
    texts, longest = [""], [""]
    for length in range(most):
        longest = [text + sign for text in longest for sign in signs]
        texts += longest
    return texts
