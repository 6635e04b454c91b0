"""A search in breadth: the places that texts come to from a first one, those of shorter texts ahead."""


# What is searched tells by leads(place) a list of (sign, place behind it), and by is_good(place) whether it is wanted.
# Told is (place, came): a nearest good place, None where no text comes to one; and, for each place that was come to,
# the place ahead of it and the sign between both, None for the first. Where a most is told, the place is None, too, as
# soon as texts shorter than any to a good one come to more places than that; just then came has more of them.
def search(first, searched, most=None):
    came = {first: None}
    edge = [first]
    while edge != []:
        for place in edge:
            if searched.is_good(place):
                return (place, came)
        if most is not None and len(came) > most:
            return (None, came)
        farther = []
        for place in edge:
            for lead in searched.leads(place):
                if lead[1] not in came:
                    came[lead[1]] = (place, lead[0])
                    farther.append(lead[1])
        edge = farther
    return (None, came)


def text_to(came, place):
    signs = []
    link = came[place]
    while link is not None:
        signs.append(link[1])
        link = came[link[0]]
    return "".join(reversed(signs))
