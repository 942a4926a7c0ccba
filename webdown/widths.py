"""Widths: the places near a place, orders of a width, and the papers that there is none."""

from webdown.errors import NoPlace
from webdown.shapes import are_some_of, is_order, is_pair, is_place, rising, together
from webdown.webs import all_beside, reached


def near(web, gone, place):
    if not is_place(web[0], place) or place in gone:
        raise NoPlace("the place is none of the web that is not gone")
    if not all([is_place(web[0], each) for each in gone]):
        raise NoPlace("a gone place is none of the web")
    # What is reached through gone places alone; near are those at its rim.
    touching = all_beside(web)
    inside = reached(web, gone + (place,), place)
    around = together([touching[each] for each in inside])
    return rising([each for each in around if each not in inside])


def has_width(web, k, order):
    return all([len(near(web, order[:spot], place)) <= k for spot, place in enumerate(order)])


def able_to_go(web, k, gone):
    left = [place for place in web[0] if place not in gone]
    return [place for place in left if len(near(web, gone, place)) <= k]


def slim(web, k):
    # Each set of places that can be gone together, with an order in which they went.
    orders = {(): ()}
    waiting = [()]
    while len(waiting) > 0 and web[0] not in orders:
        gone = waiting.pop()
        for place in able_to_go(web, k, gone):
            further = rising(gone + (place,))
            if further not in orders:
                orders[further] = orders[gone] + (place,)
                waiting.append(further)
    if web[0] in orders:
        return ("slim", orders[web[0]])
    return ("wide", tuple(orders))


def width_of(web):
    k = 0
    while slim(web, k)[0] == "wide":
        k = k + 1
    return k


def width_holds(web, k, told):
    if not is_pair(told):
        return False
    if told[0] == "slim":
        return is_order(web[0], told[1]) and has_width(web, k, told[1])
    return told[0] == "wide" and are_sets(web, told[1]) and shows_wide(web, k, told[1])


def are_sets(web, value):
    return isinstance(value, tuple) and all([are_some_of(web[0], each) for each in value])


def shows_wide(web, k, sets):
    # A dict, since each set is looked for many times.
    known = {}
    for gone in sets:
        known[gone] = True
    return () in known and web[0] not in known and all([goes_on_within(web, k, known, gone) for gone in known])


def goes_on_within(web, k, known, gone):
    return all([rising(gone + (place,)) in known for place in able_to_go(web, k, gone)])
