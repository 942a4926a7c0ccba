"""Blocks: the ties of a web dealt to greatest pieces that no single place, left out, takes apart."""

from webdown.shapes import rising, together
from webdown.steps import without_place
from webdown.webs import other_end, parts_of


def blocks_of(web):
    # Two ties are in one block just where, whatever place is left out, what is left of both is in one part.
    left_parts = [parts_of(without_place(web, place)) for place in web[0]]
    dealt = {}
    for tie in web[1]:
        sides = tuple([side_of(tie, place, parts) for place, parts in zip(web[0], left_parts)])
        dealt.setdefault(sides, []).append(tie)
    return in_touching_order([web_of_ties(dealt[sides]) for sides in dealt])


def side_of(tie, gone, parts):
    end = other_end(tie, gone)
    return [part for part in parts if end in part][0]


def web_of_ties(ties):
    return (rising(together(ties)), tuple(ties))


def in_touching_order(blocks):
    # Blocks touch one another like the limbs of trees: each then meets those ahead of it in one place at most.
    ordered = []
    left = list(blocks)
    while len(left) > 0:
        touching = [block for block in left if touches(block, ordered)]
        chosen = touching[0] if len(touching) > 0 else left[0]
        ordered.append(chosen)
        left.remove(chosen)
    return tuple(ordered)


def touches(block, ordered):
    return any([place in together([other[0] for other in ordered]) for place in block[0]])
