"""The finder: which of some dialects take a text, and where the others fall."""

from dialecthall.reading import check_text, end_of, table_of, walk


# Told is (at, row, word) of the first row with another number of cells than the first one, None where there is none.
def uneven_row(kinds):
    first = 0
    row = 0
    cells = 1
    for at, kind in enumerate(kinds):
        if kind == "part":
            cells = cells + 1
        elif kind == "end":
            if row == 0:
                first = cells
            elif cells != first:
                return (at, row, "uneven")
            row = row + 1
            cells = 1
    return None


# Told is (at, row, word), None where the text is taken.
def fall_of(walked, even):
    uneven = uneven_row(walked[0]) if even else None
    # A row that has ended has done so ahead of all that fails behind it.
    return end_of(walked) if uneven is None else uneven


def fallen(dialects, text, even=False):
    check_text(text)
    falls = []
    for place, dialect in enumerate(dialects):
        fall = fall_of(walk(dialect, text), even)
        if fall is not None:
            falls.append((fall[0], place, fall[1], fall[2]))
    return sorted(falls)


def takers(dialects, text, even):
    check_text(text)
    found = []
    for place, dialect in enumerate(dialects):
        walked = walk(dialect, text)
        if fall_of(walked, even) is None:
            found.append((place, table_of(text, walked[0])))
    return found


def last_of(falls):
    if falls == []:
        return None
    farthest = [fall for fall in falls if fall[0] == falls[-1][0]][0]
    return (farthest[1], farthest[2], farthest[0], farthest[3])


def finding(dialects, text, even=False):
    found = takers(dialects, text, even)
    if found != []:
        return ("read", found)
    return ("none", last_of(fallen(dialects, text, even)))


def takes_all(dialect, texts, even):
    for text in texts:
        if fall_of(walk(dialect, text), even) is not None:
            return False
    return True


def found_all(dialects, texts, even=False):
    for text in texts:
        check_text(text)
    return [place for place, dialect in enumerate(dialects) if takes_all(dialect, texts, even)]


def common(dialects, text, even=False):
    tables = [taken[1] for taken in takers(dialects, text, even)]
    if tables == [] or any([table != tables[0] for table in tables]):
        return None
    return tables[0]
