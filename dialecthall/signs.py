"""Signs, texts and tables: what of all that is handed in is one."""

LINE = "\n"

MOST_SIGNS = 2000
MOST_ROWS = 60
MOST_CELLS = 20
MOST_SIGNS_IN_CELLS = 400

LETTERS_AND_FIGURES = "abcdefghijklmnopqrstuvwxyzABCDEFGHIJKLMNOPQRSTUVWXYZ0123456789"


# A truth is an int to Python, but no whole number.
def is_whole(thing, least, most):
    if not isinstance(thing, int) or isinstance(thing, bool):
        return False
    return thing >= least and thing <= most


def is_printable(sign):
    number = ord(sign)
    return number >= 32 and number <= 126 and number != 37


def has_signs_alone(text):
    return all([sign == LINE or is_printable(sign) for sign in text])


def is_text(thing):
    if not isinstance(thing, str) or len(thing) > MOST_SIGNS:
        return False
    return has_signs_alone(thing)


def is_cell(thing):
    # No table has room for a longer one, so its signs need no look.
    if not isinstance(thing, str) or len(thing) > MOST_SIGNS_IN_CELLS:
        return False
    return has_signs_alone(thing)


def is_row(thing):
    if not isinstance(thing, list) or len(thing) < 1 or len(thing) > MOST_CELLS:
        return False
    return all([is_cell(cell) for cell in thing])


def signs_in_row(row):
    return sum([len(cell) for cell in row])


def is_table(thing):
    if not isinstance(thing, list) or len(thing) > MOST_ROWS:
        return False
    if not all([is_row(row) for row in thing]):
        return False
    return sum([signs_in_row(row) for row in thing]) <= MOST_SIGNS_IN_CELLS


# Each sign once, where it comes first.
def once(text):
    found = ""
    for sign in text:
        if sign not in found:
            found = found + sign
    return found


def others(some, many):
    free = [sign for sign in LETTERS_AND_FIGURES if sign not in some]
    return "".join(free[:many])
