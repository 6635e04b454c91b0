"""Families: a dialect for each choice out of four lists."""

from dialecthall.dialects import dialect_of
from dialecthall.errors import NoDialect, NoFamily, TooMany

MOST_DIALECTS = 24


def makes_dialect(told):
    try:
        dialect_of(told)
    except NoDialect:
        return False
    return True


def is_list_of_choices(thing):
    return isinstance(thing, list) and len(thing) > 0


# Which choice is beside it does not matter, so each is looked at by itself: there may be far too many together.
def are_good_choices(parts, quotes, frees, truths):
    plain = (False, False, False, False)
    return (all([makes_dialect((choice, "", "") + plain) for choice in parts])
            and all([makes_dialect((",", choice, "") + plain) for choice in quotes])
            and all([makes_dialect((",", "", choice) + plain) for choice in frees])
            and all([isinstance(choice, tuple) and makes_dialect((",", "", "") + choice) for choice in truths]))


def family(parts, quotes, frees, truths):
    if not all([is_list_of_choices(thing) for thing in (parts, quotes, frees, truths)]):
        raise NoFamily("a family is told by four lists, each with a choice at least")
    if not are_good_choices(parts, quotes, frees, truths):
        raise NoFamily("no dialect is made with one of the choices")
    if len(parts) * len(quotes) * len(frees) * len(truths) > MOST_DIALECTS:
        raise TooMany(MOST_DIALECTS)
    dialects = []
    for some_parts in parts:
        for some_quotes in quotes:
            for some_frees in frees:
                for some_truths in truths:
                    dialects.append(dialect_of((some_parts, some_quotes, some_frees) + some_truths))
    return dialects
