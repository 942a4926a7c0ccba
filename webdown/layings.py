"""Layings of a web on another one: whether a tuple is one, and whether two webs are alike."""

from webdown.inlays import inlaid
from webdown.shapes import is_order, rising
from webdown.webs import all_beside, of_place


def laying_holds(one, other, laying):
    return is_order(other[0], laying) and len(laying) == len(one[0]) and laid_ties(one, laying) == other[1]


def laid_ties(web, laying):
    return rising([rising((of_place(web, laying, a), of_place(web, laying, b))) for a, b in web[1]])


def alike(one, other):
    # Counting and marks are short, and tell most unlike webs apart ahead of any search.
    if len(one[0]) != len(other[0]) or len(one[1]) != len(other[1]) or marks_of(one) != marks_of(other):
        return None
    # Both have as many ties, so where all the one's lie on ties, none of the other's is left over.
    return inlaid(one, other)


def marks_of(web):
    # No laying changes them: for each place, beside how many places each of those beside it is.
    near = all_beside(web)
    return tuple(sorted([mark_of(near, place) for place in web[0]]))


def mark_of(near, place):
    return tuple(sorted([len(near[other]) for other in near[place]]))
