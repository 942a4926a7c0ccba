"""The kinds by drawing, land and flat: what a making is, places or turns gone round."""

from webdown.shapes import is_order, rising
from webdown.webs import beside, of_place, parts_of


def shows_land(web, making):
    return is_order(web[0], making) and not any_cross([span_of(making, tie) for tie in web[1]])


def span_of(order, tie):
    return rising((order.index(tie[0]), order.index(tie[1])))


def any_cross(spans):
    return any([is_crossed(span, spans) for span in spans])


def is_crossed(span, spans):
    return any([span[0] < other[0] < span[1] < other[1] for other in spans])


def shows_flat(web, making):
    if not are_turns(web, making):
        return False
    lands = lands_of(web, making)
    return all([is_flat_part(web, lands, part) for part in parts_of(web) if len(part) > 1])


def are_turns(web, making):
    return (
        isinstance(making, tuple)
        and len(making) == len(web[0])
        and all([is_order(beside(web, place), turn) for place, turn in zip(web[0], making)])
    )


def is_flat_part(web, lands, part):
    ties = [tie for tie in web[1] if tie[0] in part]
    own_lands = [land for land in lands if land[0][0] in part]
    return len(part) - len(ties) + len(own_lands) == 2


def lands_of(web, turns):
    lands = []
    gone = {}
    for way in ways_of(web):
        if way not in gone:
            land = land_from(web, turns, way)
            lands.append(land)
            for each in land:
                gone[each] = True
    return lands


def ways_of(web):
    return [(a, b) for a, b in web[1]] + [(b, a) for a, b in web[1]]


def land_from(web, turns, start):
    land = [start]
    way = way_on(web, turns, start)
    while way != start:
        land.append(way)
        way = way_on(web, turns, way)
    return land


def way_on(web, turns, way):
    turn = of_place(web, turns, way[1])
    behind = (turn.index(way[0]) + 1) % len(turn)
    return (way[1], turn[behind])
