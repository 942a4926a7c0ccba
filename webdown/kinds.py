"""The seven kinds: their bars, the looks at makings, and whether a web is of a kind, shown by a making or by a bar."""

from webdown.drawn import flat_making, land_making
from webdown.errors import NoKind
from webdown.hanging import bare_making, rings_making, rows_making, trees_making
from webdown.hanging import shows_bare, shows_rings, shows_rows, shows_trees
from webdown.heaps import heaps_of_row
from webdown.listing import found_line
from webdown.rounds import shows_flat, shows_land
from webdown.steps import can_be_made, gone_row, stepped, steps_of
from webdown.widths import slim, width_holds

KINDS = ("bare", "rows", "trees", "rings", "land", "twos", "flat")

TIE = ((0, 1), ((0, 1),))
RING_OF_THREE = ((0, 1, 2), ((0, 1), (0, 2), (1, 2)))
STAR_OF_THREE = ((0, 1, 2, 3), ((0, 1), (0, 2), (0, 3)))
TWO_RINGS = ((0, 1, 2, 3), ((0, 1), (0, 2), (0, 3), (1, 2), (1, 3)))
ALL_OF_FOUR = ((0, 1, 2, 3), ((0, 1), (0, 2), (0, 3), (1, 2), (1, 3), (2, 3)))
TWO_BY_THREE = ((0, 1, 2, 3, 4), ((0, 2), (0, 3), (0, 4), (1, 2), (1, 3), (1, 4)))
ALL_OF_FIVE = (
    (0, 1, 2, 3, 4),
    ((0, 1), (0, 2), (0, 3), (0, 4), (1, 2), (1, 3), (1, 4), (2, 3), (2, 4), (3, 4)),
)
THREE_BY_THREE = (
    (0, 1, 2, 3, 4, 5),
    ((0, 3), (0, 4), (0, 5), (1, 3), (1, 4), (1, 5), (2, 3), (2, 4), (2, 5)),
)


def known_kind(kind):
    if kind not in KINDS:
        raise NoKind("there is no such kind")
    return kind


def bars_of(kind):
    known = known_kind(kind)
    if known == "bare":
        return (TIE,)
    if known == "rows":
        return (RING_OF_THREE, STAR_OF_THREE)
    if known == "trees":
        return (RING_OF_THREE,)
    if known == "rings":
        return (TWO_RINGS,)
    if known == "land":
        return (ALL_OF_FOUR, TWO_BY_THREE)
    if known == "twos":
        return (ALL_OF_FOUR,)
    return (ALL_OF_FIVE, THREE_BY_THREE)


def making_holds(kind, web, making):
    known = known_kind(kind)
    if known == "bare":
        return shows_bare(web, making)
    if known == "rows":
        return shows_rows(web, making)
    if known == "trees":
        return shows_trees(web, making)
    if known == "rings":
        return shows_rings(web, making)
    if known == "land":
        return shows_land(web, making)
    if known == "twos":
        return width_holds(web, 2, ("slim", making))
    return shows_flat(web, making)


def making_of(kind, web):
    known = known_kind(kind)
    if known == "bare":
        return bare_making(web)
    if known == "rows":
        return rows_making(web)
    if known == "trees":
        return trees_making(web)
    if known == "rings":
        return rings_making(web)
    if known == "land":
        return land_making(web)
    if known == "twos":
        return twos_making(web)
    return flat_making(web)


def twos_making(web):
    told = slim(web, 2)
    return told[1] if told[0] == "slim" else None


def made(kind, web):
    making = making_of(kind, web)
    if making is not None:
        return ("of", making)
    row = row_to_bar(kind, web)
    # What is left is alike to a bar, since each step of it leads into the kind.
    found = found_line(bars_of(kind), gone_row(web, row))
    heaps = heaps_of_row(web, row)
    bar = bars_of(kind)[found[0]]
    return ("bar", found[0], tuple([heaps[found[1].index(place)] for place in bar[0]]))


def row_to_bar(kind, web):
    # A step that led into the kind will do so later, too, whatever was stepped since: so each is tried once.
    row = []
    standing = web
    names = dict(zip(web[0], web[0]))
    for step in steps_of(web):
        named = step[:1] + tuple([names[place] for place in step[1:]])
        if can_be_made(standing, named) and making_of(kind, stepped(standing, named)) is None:
            row.append(named)
            standing = stepped(standing, named)
            if named[0] == "draw":
                names = names_behind(names, named)
    return tuple(row)


def names_behind(names, drawing):
    changed = {}
    for place in names:
        changed[place] = drawing[1] if names[place] == drawing[2] else names[place]
    return changed
