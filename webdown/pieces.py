"""Trees of pieces: whether one holds, the tree of an order, and pieces led along heaps."""

from webdown.shapes import is_whole, rising
from webdown.widths import are_sets, near


def tree_holds(web, k, pieces, links):
    return (
        are_sets(web, pieces)
        and are_links(pieces, links)
        and all([len(piece) <= k + 1 for piece in pieces])
        and all([are_in_one(pieces, (place,)) for place in web[0]])
        and all([are_in_one(pieces, tie) for tie in web[1]])
        and all([hang_together(pieces, links, place) for place in web[0]])
    )


def are_links(pieces, links):
    return (
        isinstance(links, tuple)
        and len(links) == len(pieces[1:])
        and all([is_whole(link) and spot < link < len(pieces) for spot, link in enumerate(links)])
    )


def are_in_one(pieces, places):
    return any([all([place in piece for place in places]) for piece in pieces])


def hang_together(pieces, links, place):
    having = [number for number, piece in enumerate(pieces) if place in piece]
    return all([links[number] in having for number in having[:-1]])


def tree_of(web, order):
    near_ones = [near(web, order[:spot], place) for spot, place in enumerate(order)]
    pieces = [rising(near_ones[spot] + (place,)) for spot, place in enumerate(order)]
    links = [link_of(order, spot, near_ones[spot]) for spot in range(len(order) - 1)]
    return (tuple(pieces), tuple(links))


def link_of(order, spot, near_ones):
    return min([order.index(place) for place in near_ones], default=spot + 1)


def led(little, heaps, pieces):
    return tuple([led_piece(little, heaps, piece) for piece in pieces])


def led_piece(little, heaps, piece):
    return tuple([place for place, heap in zip(little[0], heaps) if any([each in piece for each in heap])])
