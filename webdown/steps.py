"""Steps: leaving out a tie or a place, drawing a tie together; and rows of them."""

from webdown.errors import NoStep
from webdown.shapes import is_place, rising
from webdown.webs import are_tied


def steps_of(web):
    ties_left_out = [("tie", a, b) for a, b in web[1]]
    places_left_out = [("place", place) for place in web[0]]
    ties_drawn = [("draw", a, b) for a, b in web[1]]
    return tuple(ties_left_out + places_left_out + ties_drawn)


def stepped(web, step):
    if not can_be_made(web, step):
        raise NoStep("the web has no such tie or no such place")
    if step[0] == "tie":
        return without_tie(web, (step[1], step[2]))
    if step[0] == "place":
        return without_place(web, step[1])
    return drawn_together(web, step[1], step[2])


def can_be_made(web, step):
    if not all([is_place(web[0], name) for name in step[1:]]):
        return False
    if step[0] == "tie":
        return (step[1], step[2]) in web[1]
    if step[0] == "draw":
        return are_tied(web, step[1], step[2])
    return step[0] == "place"


def without_tie(web, tie):
    return (web[0], tuple([other for other in web[1] if other != tie]))


def without_place(web, place):
    return (left_places(web, place), tuple([tie for tie in web[1] if place not in tie]))


def left_places(web, gone):
    return tuple([place for place in web[0] if place != gone])


def drawn_together(web, kept, gone):
    ties = [renamed(tie, gone, kept) for tie in web[1]]
    # The tie that was drawn together has both ends in one place now, so it is none any more.
    return (left_places(web, gone), rising([tie for tie in ties if len(tie) == 2]))


def renamed(tie, old, new):
    return rising([new if place == old else place for place in tie])


def gone_row(web, row):
    standing = web
    for step in row:
        standing = stepped(standing, step)
    return standing
