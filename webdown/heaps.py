"""Heaps of a little web in a great one: whether they hold, heaps behind heaps, heaps of rows and rows of heaps."""

from webdown.layings import laid_ties
from webdown.shapes import are_some_of, rising, together
from webdown.steps import gone_row, stepped
from webdown.webs import are_tied, hangs_together, of_place, reached


def heaps_hold(little, great, heaps):
    return (
        isinstance(heaps, tuple)
        and len(heaps) == len(little[0])
        and all([is_heap(great, heap) for heap in heaps])
        and are_apart(heaps)
        and all([are_joined(great, of_place(little, heaps, a), of_place(little, heaps, b)) for a, b in little[1]])
    )


def is_heap(great, heap):
    return are_some_of(great[0], heap) and hangs_together(great, heap)


def are_apart(heaps):
    dealt = together(heaps)
    return len(set(dealt)) == len(dealt)


def are_joined(great, heap, other_heap):
    return any([is_joined(great, place, other_heap) for place in heap])


def is_joined(great, place, heap):
    return any([are_tied(great, place, other) for other in heap])


def behind(middle, inner, outer):
    return tuple([rising(together([of_place(middle, outer, place) for place in heap])) for heap in inner])


def heaps_of_row(web, row):
    standing = web
    drawn_in = {}
    for place in web[0]:
        drawn_in[place] = (place,)
    for step in row:
        standing = stepped(standing, step)
        if step[0] == "draw":
            drawn_in[step[1]] = drawn_in[step[1]] + drawn_in[step[2]]
    return tuple([rising(drawn_in[place]) for place in standing[0]])


def row_of_heaps(little, great, heaps):
    row = leavings(great, heaps)
    for heap in heaps:
        row.extend(drawings(great, heap))
    laying = tuple([heap[0] for heap in heaps])
    row.extend(spare_ties(little, gone_row(great, row), laying))
    return (tuple(row), laying)


def leavings(great, heaps):
    dealt = together(heaps)
    return [("place", place) for place in great[0] if place not in dealt]


def drawings(great, heap):
    # As they are reached, each is tied with one that is drawn into the first by then, so with the first itself.
    return [("draw", heap[0], place) for place in reached(great, heap, heap[0])[1:]]


def spare_ties(little, web, laying):
    wanted = laid_ties(little, laying)
    return [("tie", a, b) for a, b in web[1] if (a, b) not in wanted]
