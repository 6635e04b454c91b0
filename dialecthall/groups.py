"""Groups of dialects that read every text alike, and texts that tell the groups apart."""

from dialecthall.errors import TooMany
from dialecthall.pairs import is_parted
from dialecthall.parted import compare

MOST_IN_GROUPS = 12


def check_many(dialects):
    if len(dialects) > MOST_IN_GROUPS:
        raise TooMany(MOST_IN_GROUPS)


# What is alike to one of a group is alike to all of it, so its first one stands for it.
def group_of(dialects, found, place):
    for group in found:
        if compare(dialects[group[0]], dialects[place])[0] == "alike":
            return group
    return None


def groups(dialects):
    check_many(dialects)
    found = []
    for place in range(len(dialects)):
        group = group_of(dialects, found, place)
        if group is None:
            found.append([place])
        else:
            group.append(place)
    return found


def is_told_apart(texts, one, other):
    return any([is_parted(one, other, text) for text in texts])


def all_couples(things):
    couples = []
    for place, thing in enumerate(things):
        couples.extend([(thing, behind) for behind in things[place + 1:]])
    return couples


def tells_apart(texts, couples):
    return all([is_told_apart(texts, couple[0], couple[1]) for couple in couples])


# One text less each time it can be done: what could not be left out of more texts can't be left out of fewer.
def thinned(texts, couples):
    kept = list(texts)
    for text in texts:
        fewer = [other for other in kept if other != text]
        if tells_apart(fewer, couples):
            kept = fewer
    return kept


def telling(dialects):
    couples = all_couples([dialects[group[0]] for group in groups(dialects)])
    texts = []
    for couple in couples:
        if not is_told_apart(texts, couple[0], couple[1]):
            texts.append(compare(couple[0], couple[1])[1])
    return thinned(texts, couples)
