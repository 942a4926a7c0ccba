"""The kinds by drawing, land and flat: how a making is found, each block ring by ring, way by way, into its lands."""

from webdown.blocks import blocks_of
from webdown.shapes import rising, together
from webdown.steps import without_place, without_tie
from webdown.webs import all_beside, parts_of


def land_making(web):
    # With a hub inside that is tied with all, a ring without crossings is a flat drawing: the hub's turn is the ring.
    hub = web[0][-1] + 1 if len(web[0]) > 0 else 0
    spokes = tuple([(place, hub) for place in web[0]])
    turns = flat_making((web[0] + (hub,), rising(web[1] + spokes)))
    return None if turns is None else turns[-1]


def flat_making(web):
    turns = {}
    for place in web[0]:
        turns[place] = ()
    for block in blocks_of(web):
        lands = block_lands(block)
        if lands is None:
            return None
        # Blocks meet in single places: there the one may be drawn within a land of the other.
        for place in block[0]:
            turns[place] = turns[place] + turn_among(lands, place)
    return tuple([turns[place] for place in web[0]])


def turn_among(lands, place):
    behind = {}
    for land in lands:
        if place in land:
            spot = land.index(place)
            behind[land[spot - 1]] = land[(spot + 1) % len(land)]
    turn = [list(behind)[0]]
    while len(turn) < len(behind):
        turn.append(behind[turn[-1]])
    return tuple(turn)


def block_lands(block):
    first = block[1][0]
    if len(block[1]) == 1:
        return [first]
    ring = way_between(without_tie(block, first), block[0], first)
    lands = [ring, ring[::-1]]
    pieces = open_pieces(block, lands)
    while len(pieces) > 0:
        # A piece for which there is but one land must lie there; where each has more, any choice can be gone on with.
        piece = min(pieces, key=lambda each: len(lands_around(lands, each)))
        around = lands_around(lands, piece)
        if len(around) == 0:
            return None
        lands = parted(lands, around[0], way_through(block, piece))
        pieces = open_pieces(block, lands)
    return lands


def open_pieces(block, lands):
    # A piece is (inside, feet): places not drawn yet that hang together, perhaps none, and the drawn ones beside them.
    drawn_places = rising(together(lands))
    drawn_ties = together([round_ties(land) for land in lands])
    open_ties = [tie for tie in block[1] if tie not in drawn_ties]
    single = [((), tie) for tie in open_ties if tie[0] in drawn_places and tie[1] in drawn_places]
    rest = block
    for place in drawn_places:
        rest = without_place(rest, place)
    return single + [(part, feet_of(block, part)) for part in parts_of(rest)]


def round_ties(land):
    return [rising((land[k - 1], land[k])) for k in range(len(land))]


def feet_of(block, part):
    near = all_beside(block)
    return rising([place for place in together([near[inner] for inner in part]) if place not in part])


def lands_around(lands, piece):
    return [land for land in lands if all([foot in land for foot in piece[1]])]


def way_through(block, piece):
    # No block has a piece with one foot alone.
    ends = piece[1][:2]
    if len(piece[0]) == 0:
        return ends
    return way_between(without_tie(block, ends), piece[0] + ends, ends)


def way_between(web, chosen, ends):
    near = all_beside(web)
    ways = [(ends[0],)]
    met = [ends[0]]
    looked_at = 0
    while ways[looked_at][-1] != ends[1]:
        way = ways[looked_at]
        for place in near[way[-1]]:
            if place in chosen and place not in met:
                met.append(place)
                ways.append(way + (place,))
        looked_at = looked_at + 1
    return ways[looked_at]


def parted(lands, land, way):
    start = land.index(way[0])
    turned = land[start:] + land[:start]
    end = turned.index(way[-1])
    # The new way bounds both halves, once gone forth and once back, as each tie does.
    with_way_back = turned[: end + 1] + way[1:-1][::-1]
    with_way_forth = way + turned[end + 1 :]
    return [other for other in lands if other != land] + [with_way_back, with_way_forth]
