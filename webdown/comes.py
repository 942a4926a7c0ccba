"""Coming out: heaps of a little web in a great one, wherever there are some."""

from webdown.heaps import heaps_of_row
from webdown.inlays import inlaid
from webdown.layings import alike, marks_of
from webdown.steps import drawn_together, gone_row, renamed
from webdown.webs import all_beside, counts_of, of_place


def comes_out(little, great):
    # No step raises a count.
    if any([more > most for more, most in zip(counts_of(little), counts_of(great))]):
        return None
    found = Search(little).found(great, (), ())
    if found is None:
        return None
    row = found[0]
    end = gone_row(great, row)
    heaps = heaps_of_row(great, row)
    return tuple([of_place(end, heaps, place) for place in found[1]])


class Search:
    def __init__(self, little):
        self.little = little
        self.tried = {}

    def found(self, web, row, apart):
        # Drawing raises no number of ties, so what has too few now will have too few later.
        if len(web[1]) < len(self.little[1]):
            return None
        if len(web[0]) > len(self.little[0]):
            further = self.found_further(web, row, apart)
            if further is not None:
                return further
        if not self.is_worth_trying(web):
            return None
        lying = inlaid(self.little, web)
        return None if lying is None else (row, lying)

    def found_further(self, web, row, apart):
        # Once a tie has been drawn in vain its ends stay apart, so that no web is come to by two ways.
        held = list(apart)
        for a, b in web[1]:
            if (a, b) not in held:
                still = [renamed(tie, b, a) for tie in held]
                further = self.found(drawn_together(web, a, b), row + (("draw", a, b),), still)
                if further is not None:
                    return further
                held.append((a, b))
        return None

    def is_worth_trying(self, web):
        # A spare place that is tied can be drawn into a heap: so it is enough to try where the spare ones are lone.
        near = all_beside(web)
        lone = [place for place in near if len(near[place]) == 0]
        return len(web[0]) - len(self.little[0]) <= len(lone) and self.is_new(web)

    def is_new(self, web):
        known = self.tried.setdefault(marks_of(web), [])
        if any([alike(web, other) is not None for other in known]):
            return False
        known.append(web)
        return True
