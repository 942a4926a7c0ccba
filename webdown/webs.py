"""Webs: how one is made, the places beside a place, the parts and the counts."""

from webdown.errors import NoPlace, NoWeb, TooGreat
from webdown.shapes import MOST_PLACES, is_place, rising


def web_of(places, pairs):
    known = rising(places)
    for pair in pairs:
        if not can_be_tied(known, pair):
            raise NoWeb("a pair is of two unlike places of the web")
    # Asked behind the pairs: a wrong pair is refused ahead of too many places.
    if len(known) > MOST_PLACES:
        raise TooGreat(f"a web has at most {MOST_PLACES} places")
    return (known, rising([rising(pair) for pair in pairs]))


def can_be_tied(places, pair):
    return is_place(places, pair[0]) and is_place(places, pair[1]) and pair[0] != pair[1]


def beside(web, place):
    if not is_place(web[0], place):
        raise NoPlace("there is no such place in the web")
    return rising([other_end(tie, place) for tie in web[1] if place in tie])


def other_end(tie, place):
    return tie[1] if tie[0] == place else tie[0]


def all_beside(web):
    # For all places at once, in one walk along the ties: a search asks for these often.
    near = {}
    for place in web[0]:
        near[place] = []
    for a, b in web[1]:
        near[a].append(b)
        near[b].append(a)
    return near


def are_tied(web, one, other):
    return rising((one, other)) in web[1]


def of_place(web, values, place):
    # Of a tuple that has one value for each place, in the order of the places.
    return values[web[0].index(place)]


def reached(web, chosen, start):
    # In the order in which they are found, so that each but the first is tied with one ahead of it.
    near = all_beside(web)
    found = [start]
    looked_at = 0
    while looked_at < len(found):
        for place in near[found[looked_at]]:
            if place in chosen and place not in found:
                found.append(place)
        looked_at = looked_at + 1
    return tuple(found)


def hangs_together(web, chosen):
    return len(chosen) > 0 and len(reached(web, chosen, chosen[0])) == len(chosen)


def parts_of(web):
    # Each place tells its whole part; rising keeps of the same ones one.
    return rising([rising(reached(web, web[0], place)) for place in web[0]])


def counts_of(web):
    places = len(web[0])
    ties = len(web[1])
    return (places, ties, ties - places + len(parts_of(web)))
