"""Layings of a web on another one: whether a tuple is one, and whether two webs are alike."""

from webdown.shapes import is_place, rising
from webdown.webs import are_tied, beside, of_place


def laying_holds(one, other, laying):
    return (
        isinstance(laying, tuple)
        and len(laying) == len(one[0])
        and all([is_place(other[0], place) for place in laying])
        and tuple(sorted(laying)) == other[0]
        and laid_ties(one, laying) == other[1]
    )


def laid_ties(web, laying):
    return rising([rising((of_place(web, laying, a), of_place(web, laying, b))) for a, b in web[1]])


def alike(one, other):
    # Counting is short, and tells most unlike webs apart ahead of any search.
    if len(one[0]) != len(other[0]) or len(one[1]) != len(other[1]):
        return None
    marks = marks_of(one)
    other_marks = marks_of(other)
    if sorted(marks) != sorted(other_marks):
        return None
    chances = [fitting(other, other_marks, mark) for mark in marks]
    return laid_further(one, other, chances, ())


def marks_of(web):
    # No laying changes a mark: how many places are beside one, and beside each of these.
    many = {}
    for place in web[0]:
        many[place] = len(beside(web, place))
    return [(many[place], sorted([many[near] for near in beside(web, place)])) for place in web[0]]


def fitting(web, marks, mark):
    return [place for place, own in zip(web[0], marks) if own == mark]


def laid_further(one, other, chances, laid):
    if len(laid) == len(one[0]):
        return laid
    for place in chances[len(laid)]:
        if fits(one, other, laid, place):
            laying = laid_further(one, other, chances, laid + (place,))
            if laying is not None:
                return laying
    return None


def fits(one, other, laid, place):
    added = one[0][len(laid)]
    return place not in laid and all(
        [are_tied(one, ahead, added) == are_tied(other, lying, place) for ahead, lying in zip(one[0], laid)]
    )
