"""[26], [27]: what makings of land and flat are."""

import itertools
import math

from tests.helper import BARS, CHAIN, FAR, FARTHEST, STRANGE, MakingCase
from tests.helper import across, all_tied, all_webs, beside_each_other, is_flat, is_land, lone, prism, renamed, ring_of
from tests.helper import row_of, star_of, wheel
from webdown.rounds import lands_of, shows_flat, shows_land
from webdown.webs import beside


def all_turns(web):
    """Each tuple of turns, each turn begun with its least place: all that are unlike when they are gone round."""
    choices = []
    for place in web[0]:
        near = beside(web, place)
        choices.append([near[:1] + rest for rest in itertools.permutations(near[1:])])
    return itertools.product(*choices)


class TestLand(MakingCase):
    def test_all_orders_of_few_places(self):
        for web in all_webs((0, 4, 9, FAR)):
            for order in itertools.permutations(web[0]):
                self.assertEqual(self.told_truth(shows_land, web, order), is_land(web, order), (web, order))

    def test_all_orders_of_some_webs(self):
        tailed = beside_each_other(ring_of((0, 1, 2, 3)), row_of((1, 3, 4)))
        for web in (ring_of((2, 4, 0, 1, 3)), BARS["land"][1], all_tied(range(5)), star_of(3, (0, 1, 2, 4)), tailed):
            for order in itertools.permutations(range(5)):
                self.assertEqual(self.told_truth(shows_land, web, order), is_land(web, order), (web, order))

    def test_how_many_orders(self):
        ring, row = ring_of((0, 1, 2, 3)), row_of((0, 1, 2, 3))
        for web, many in ((ring, 8), (all_tied(range(4)), 0), (lone(range(4)), 24), (row, 16)):
            orders = itertools.permutations(range(4))
            self.assertEqual(sum(self.told_truth(shows_land, web, order) for order in orders), many, web)

    def test_gone_round_and_turned_round(self):
        order = (3, 8, 0, FAR, 5, FARTHEST, 1, 9, 2, 6)
        web = beside_each_other(ring_of(order), row_of((3, 0, 5, 3)), row_of((5, 1, 6)))
        for cut in range(10):
            turned = order[cut:] + order[:cut]
            self.assertTrue(self.told_truth(shows_land, web, turned))
            self.assertTrue(self.told_truth(shows_land, web, turned[::-1]))
        crossed = beside_each_other(web, row_of((8, 5)))
        self.spoilt(shows_land, crossed, (order, order[::-1], order[3:] + order[:3]))

    def test_spoilt(self):
        web, right = row_of((0, 1, 2, 3)), (0, 1, 2, 3)
        self.assertTrue(self.told_truth(shows_land, web, right))
        self.spoilt(
            shows_land,
            web,
            ((), right[:3], right + (3,), right + (4,), (0, 1, 2, 4), (0, True, 2, 3), (False, 1, 2, 3), (right,)),
        )

    def test_strange_things(self):
        for web in (lone((0, 1)), row_of((0, 1)), ((), ())):
            self.spoilt(shows_land, web, STRANGE)
        self.assertTrue(self.told_truth(shows_land, ((), ()), ()))


class TestFlat(MakingCase):
    def test_all_turns_of_few_places(self):
        for web in all_webs((0, 4, 9, FAR)):
            for turns in all_turns(web):
                self.assertEqual(self.told_truth(shows_flat, web, turns), is_flat(web, turns), (web, turns))

    def test_all_turns_of_some_webs(self):
        two_parts = beside_each_other(all_tied((0, 2, 4, 6)), ring_of((1, 3, 5)), lone((7,)))
        for web in (wheel(4, (0, 1, 2, 3)), two_parts, prism(range(6)), across((0, 1), (2, 3, 4)), CHAIN):
            for turns in all_turns(web):
                self.assertEqual(self.told_truth(shows_flat, web, turns), is_flat(web, turns), (web, turns))

    def test_how_many_turns(self):
        for web, many in (
            (all_tied(range(4)), 2),
            (prism(range(6)), 2),
            (across((0, 1, 2), (3, 4, 5)), 0),
            (all_tied(range(5)), 0),
            (across((0, 1), (2, 3, 4)), 2),
            (star_of(5, (0, 2, 9, 11)), math.factorial(3)),
            (ring_of((0, 1, 2, 3, 4)), 1),
            (beside_each_other(all_tied((0, 2, 4, 6)), all_tied((1, 3, 5, 7))), 4),
        ):
            self.assertEqual(sum(self.told_truth(shows_flat, web, turns) for turns in all_turns(web)), many, web)

    def test_a_turn_begins_anywhere(self):
        web = renamed(all_tied(range(4)), (0, 9, FAR, FARTHEST))
        right = [turns for turns in all_turns(web) if is_flat(web, turns)][0]
        for spot in range(4):
            turn = right[spot]
            for begun in (turn, turn[1:] + turn[:1], turn[2:] + turn[:2]):
                self.assertTrue(self.told_truth(shows_flat, web, right[:spot] + (begun,) + right[spot + 1 :]))
            self.spoilt(shows_flat, web, (right[:spot] + (turn[::-1],) + right[spot + 1 :],))
        self.assertTrue(self.told_truth(shows_flat, web, tuple(turn[::-1] for turn in right)))

    def test_no_ties(self):
        for many in range(11):
            self.assertTrue(self.told_truth(shows_flat, lone(range(many)), ((),) * many))
        strange = ((), ((),), ((), (), ()), ((0,), (1,)), ((), (0,)), (None, None), ("", ""))
        self.spoilt(shows_flat, lone((0, 1)), strange)
        self.spoilt(shows_flat, ((), ()), STRANGE)

    def test_spoilt(self):
        web, right = row_of((0, 1, 2)), ((1,), (0, 2), (1,))
        self.assertTrue(self.told_truth(shows_flat, web, right))
        self.assertTrue(self.told_truth(shows_flat, web, ((1,), (2, 0), (1,))))
        self.spoilt(
            shows_flat,
            web,
            (
                right[:2],
                right + ((),),
                ((), (0, 2), (1,)),
                ((1,), (0,), (1,)),
                ((1,), (0, 2, 2), (1,)),
                ((1,), (0, 2), (1, 1)),
                ((1,), (0, 2), (0,)),
                ((1, 2), (0, 2), (1,)),
                ((1,), (0, 1), (1,)),
                ((True,), (0, 2), (1,)),
                ((1,), (False, 2), (1,)),
                ((1,), (0, 2), 1),
                ((1,), (0, "2"), (1,)),
                ((1,), (0, 2), None),
                (1, 0, 2, 1),
            ),
        )
        self.spoilt(shows_flat, row_of((0, 1)), STRANGE)

    def test_one_part_that_is_not_flat(self):
        web = beside_each_other(all_tied((0, 2, 4, 6)), ring_of((1, 3, 5)))
        for turns in all_turns(web):
            inner = tuple(turns[web[0].index(place)] for place in (0, 2, 4, 6))
            self.assertEqual(self.told_truth(shows_flat, web, turns), is_flat(all_tied((0, 2, 4, 6)), inner))

    def test_lands(self):
        self.assertEqual(lands_of(row_of((0, 1, 2)), ((1,), (0, 2), (1,))), [[(0, 1), (1, 2), (2, 1), (1, 0)]])
        star = star_of(0, (1, 2, 3))
        forth = [(0, 1), (1, 0), (0, 2), (2, 0), (0, 3), (3, 0)]
        self.assertEqual(lands_of(star, ((1, 2, 3), (0,), (0,), (0,))), [forth])
        self.assertEqual(lands_of(star, ((2, 3, 1), (0,), (0,), (0,))), [forth])
        back = [(0, 1), (1, 0), (0, 3), (3, 0), (0, 2), (2, 0)]
        self.assertEqual(lands_of(star, ((3, 2, 1), (0,), (0,), (0,))), [back])
        lands = lands_of(ring_of((0, 1, 2)), ((1, 2), (0, 2), (0, 1)))
        self.assertEqual(sorted(sorted(land) for land in lands), [[(0, 1), (1, 2), (2, 0)], [(0, 2), (1, 0), (2, 1)]])
