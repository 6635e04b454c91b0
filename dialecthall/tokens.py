"""Tokens: a table as one thing behind the other, in the order in which a reader puts them out."""

from dialecthall.errors import NoTable
from dialecthall.signs import is_table

PART = ("part", "")
END = ("end", "")


def tokens_of_row(row):
    tokens = []
    for place, cell in enumerate(row):
        if place > 0:
            tokens.append(PART)
        tokens.extend([("put", sign) for sign in cell])
    tokens.append(END)
    return tokens


def check_table(thing):
    if not is_table(thing):
        raise NoTable("a table has at most 60 rows, of 1 to 20 cells each, and 400 signs in all of them together")


def tokens_of(table):
    check_table(table)
    tokens = []
    for row in table:
        tokens.extend(tokens_of_row(row))
    return tokens


# How many tokens are put out behind a step of this kind, where so many were ahead of it; None where the step puts out
# another one than the table's next.
def count_behind(tokens, count, kind, sign):
    if kind == "skip":
        return count
    token = (kind, sign if kind == "put" else "")
    if count < len(tokens) and tokens[count] == token:
        return count + 1
    return None
