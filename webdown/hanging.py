"""The kinds by hanging, bare, rows, trees and rings: what a making is, and how one is found."""

from webdown.blocks import blocks_of
from webdown.shapes import is_order, is_place, rising, together
from webdown.steps import without_tie
from webdown.webs import all_beside, beside, parts_of, reached


def shows_bare(web, making):
    return len(web[1]) == 0 and making == ()


def shows_rows(web, making):
    return (
        are_pieces(web, making, 1)
        and is_order(web[0], tuple(together(making)))
        and rising(together([side_by_side(row) for row in making])) == web[1]
    )


def shows_trees(web, making):
    return is_order(web[0], making) and all([meets_one(making[:k], beside(web, making[k])) for k in range(len(making))])


def shows_rings(web, making):
    return (
        are_pieces(web, making, 2)
        and tuple(sorted(together([piece_ties(piece) for piece in making]))) == web[1]
        and all([meets_one(together(making[:k]), making[k]) for k in range(len(making))])
    )


def are_pieces(web, making, least):
    return isinstance(making, tuple) and all([is_piece(web, piece, least) for piece in making])


def is_piece(web, piece, least):
    return (
        isinstance(piece, tuple)
        and len(piece) >= least
        and all([is_place(web[0], place) for place in piece])
        and len(set(piece)) == len(piece)
    )


def side_by_side(row):
    return [rising((row[k], row[k + 1])) for k in range(len(row) - 1)]


def piece_ties(piece):
    # A piece of two places is no ring: its last and first place are the two that stand side by side.
    closing = [rising((piece[-1], piece[0]))] if len(piece) > 2 else []
    return side_by_side(piece) + closing


def meets_one(ahead, places):
    return len([place for place in places if place in ahead]) <= 1


def bare_making(web):
    return () if len(web[1]) == 0 else None


def rows_making(web):
    # From one of its ends a row is reached in its order; what is none is then seen not to be one.
    near = all_beside(web)
    starts = [min(part, key=lambda place: len(near[place])) for part in parts_of(web)]
    making = tuple([reached(web, web[0], start) for start in starts])
    return making if shows_rows(web, making) else None


def trees_making(web):
    # Each place but a part's first is reached from one ahead of it; a second one there would close a ring.
    making = tuple(together([reached(web, web[0], part[0]) for part in parts_of(web)]))
    return making if shows_trees(web, making) else None


def rings_making(web):
    making = tuple([piece_of(block) for block in blocks_of(web)])
    return making if shows_rings(web, making) else None


def piece_of(block):
    # A ring without one of its ties is a row from one end of this tie to the other.
    start = block[1][0][0]
    opened = without_tie(block, block[1][0]) if len(block[1]) > 1 else block
    return reached(opened, block[0], start)
