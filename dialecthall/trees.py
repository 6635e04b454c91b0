"""Trees: texts asked one behind the other, until those that are left read all texts alike."""

from dialecthall.errors import TooMany
from dialecthall.reading import check_text, reading_of
from dialecthall.signs import is_whole

MOST_SORTED = 8
MOST_TEXTS = 6


def check_asked(dialects, texts):
    if len(dialects) > MOST_SORTED:
        raise TooMany(MOST_SORTED)
    if len(texts) > MOST_TEXTS:
        raise TooMany(MOST_TEXTS)
    for text in texts:
        check_text(text)


# Each dialect is told by the first one that reads the text like it: such places are held against one another far
# more often than tables should be.
def readings_of(dialects, text):
    tables = [reading_of(dialect, text) for dialect in dialects]
    return [tables.index(table) for table in tables]


def parts_of(readings, places):
    parts = []
    for place in places:
        beside = [part for part in parts if readings[part[0]] == readings[place]]
        if beside == []:
            parts.append([place])
        else:
            beside[0].append(place)
    return parts


def are_read_alike(all_readings, places):
    return all([len(parts_of(readings, places)) < 2 for readings in all_readings])


# A tree of at most this depth, None where none of them sorts these places.
def tree_within(all_readings, places, depth):
    if are_read_alike(all_readings, places):
        return ("leaf", list(places))
    if depth == 0:
        return None
    for at, readings in enumerate(all_readings):
        parts = parts_of(readings, places)
        # A text that all of them read alike only makes a tree deeper.
        if len(parts) > 1:
            branches = [tree_within(all_readings, part, depth - 1) for part in parts]
            if None not in branches:
                return ("ask", at, branches)
    return None


def tree_of(dialects, texts):
    check_asked(dialects, texts)
    all_readings = [readings_of(dialects, text) for text in texts]
    places = list(range(len(dialects)))
    depth = 0
    tree = None
    while tree is None:
        tree = tree_within(all_readings, places, depth)
        depth = depth + 1
    return tree


def depth_of(tree):
    if tree[0] == "leaf":
        return 0
    return 1 + max([depth_of(branch) for branch in tree[2]])


# A truth is equal to a whole number, but is none; so each place is looked at by itself.
def are_places(thing, places):
    if not isinstance(thing, list) or len(thing) != len(places):
        return False
    return all([is_whole(told, place, place) for told, place in zip(thing, places)])


def sorts_by_asking(all_readings, places, at, branches):
    if not is_whole(at, 0, len(all_readings) - 1) or not isinstance(branches, list) or branches == []:
        return False
    parts = parts_of(all_readings[at], places)
    if len(branches) != len(parts):
        return False
    return all([sorts_places(all_readings, part, branch) for part, branch in zip(parts, branches)])


def sorts_places(all_readings, places, thing):
    if not isinstance(thing, tuple) or len(thing) < 2 or not isinstance(thing[0], str):
        return False
    if thing[0] == "leaf" and len(thing) == 2:
        return are_places(thing[1], places) and are_read_alike(all_readings, places)
    if thing[0] == "ask" and len(thing) == 3:
        return sorts_by_asking(all_readings, places, thing[1], thing[2])
    return False


def sorts(dialects, texts, tree):
    all_readings = [readings_of(dialects, text) for text in texts]
    return sorts_places(all_readings, list(range(len(dialects))), tree)
