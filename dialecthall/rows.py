"""Rows: names, a dialect as a row of words, and a table in the house's own way."""

from dialecthall.dialects import Dialect, dialect_of
from dialecthall.errors import NoName, NoRow
from dialecthall.families import makes_dialect
from dialecthall.reading import reading_of
from dialecthall.signs import LINE, is_text
from dialecthall.tokens import check_table

MOST_LETTERS = 8
SMALL_LETTERS = "abcdefghijklmnopqrstuvwxyz"
PRINTABLE = " !\"#$&'()*+,-./0123456789:;<=>?@ABCDEFGHIJKLMNOPQRSTUVWXYZ[\\]^_`abcdefghijklmnopqrstuvwxyz{|}~"
QUOTE = "\""


def is_name(thing):
    if not isinstance(thing, str) or len(thing) < 1 or len(thing) > MOST_LETTERS:
        return False
    return all([sign in SMALL_LETTERS for sign in thing])


def word_of_signs(signs):
    if signs == "":
        return "-"
    return "+".join([str(ord(sign)) for sign in signs])


def word_of_truths(truths):
    return "".join(["1" if truth else "0" for truth in truths])


def row_of(name, dialect):
    if not is_name(name):
        raise NoName(name)
    told = dialect.told()
    words = ["dialect", name] + [word_of_signs(signs) for signs in told[:3]] + [word_of_truths(told[3:])]
    return " ".join(words)


# None where a word tells no signs: with that no dialect is made.
def signs_of_word(word):
    if word == "-":
        return ""
    signs = ""
    for number in word.split("+"):
        found = [sign for sign in PRINTABLE if str(ord(sign)) == number]
        if found == []:
            return None
        signs = signs + found[0]
    return signs


def truths_of_word(word):
    return tuple([figure == "1" if figure in "01" else None for figure in word])


def dialect_in(row):
    words = row.split(" ") if isinstance(row, str) else []
    if len(words) != 6 or words[0] != "dialect" or not is_name(words[1]):
        raise NoRow("a dialect's row has six words, the first of them dialect, the second a name")
    told = tuple([signs_of_word(word) for word in words[2:5]]) + truths_of_word(words[5])
    if not makes_dialect(told):
        raise NoRow("no dialect is told by these words")
    return (words[1], dialect_of(told))


def house():
    return Dialect(",", QUOTE, twin=True, wide=True)


def house_cell(cell):
    if not any([sign in cell for sign in (",", QUOTE, LINE)]):
        return cell
    return QUOTE + cell.replace(QUOTE, QUOTE + QUOTE) + QUOTE


def house_row(row):
    return ",".join([house_cell(cell) for cell in row]) + LINE


def house_text(table):
    check_table(table)
    return "".join([house_row(row) for row in table])


def house_table(text):
    table = reading_of(house(), text) if is_text(text) else None
    check_table(table)
    return table
