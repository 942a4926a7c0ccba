"""[21] to [24]: what makings of bare, rows, trees and rings are, and that one is found wherever there is one."""

import itertools

from tests.helper import BARS, CHAIN, FAR, FARTHEST, SAMPLES, STRANGE, MakingCase
from tests.helper import all_tied, all_webs, beside_each_other, lone, made_web, ring_of, row_of, star_of
from tests.helper import few_placed_webs, is_of_kind, is_rings, is_rows, is_trees
from webdown.hanging import bare_making, rings_making, rows_making, trees_making
from webdown.hanging import shows_bare, shows_rings, shows_rows, shows_trees

KINDS = (
    ("bare", shows_bare, bare_making),
    ("rows", shows_rows, rows_making),
    ("trees", shows_trees, trees_making),
    ("rings", shows_rings, rings_making),
)


def all_pieces(places, least):
    return [piece for many in range(least, len(places) + 1) for piece in itertools.permutations(places, many)]


def some_makings(places, least, most):
    pieces = all_pieces(places, least)
    return [making for many in range(most + 1) for making in itertools.product(pieces, repeat=many)]


class TestEachKind(MakingCase):
    def test_a_making_wherever_no_bar_comes_out(self):
        for web in few_placed_webs(5) + list(SAMPLES):
            for kind, shows, made in KINDS:
                self.look_at(shows, made, web, is_of_kind(kind, web))

    def test_strange_things(self):
        for kind, shows, made in KINDS:
            for web in (lone((0, 1)), row_of((0, 1)), ring_of((0, 1, 2))):
                self.spoilt(shows, web, STRANGE)

    def test_the_web_without_places(self):
        for kind, shows, made in KINDS:
            self.assertEqual(self.told(made, ((), ())), ())
            self.assertTrue(self.told_truth(shows, ((), ()), ()))
            self.spoilt(shows, ((), ()), STRANGE)


class TestBare(MakingCase):
    def test_no_ties(self):
        for many in range(11):
            self.assertTrue(self.told_truth(shows_bare, lone(range(many)), ()))

    def test_ties(self):
        for web in (row_of((0, 1)), all_tied(range(10)), ring_of((0, FAR, 3))):
            self.spoilt(shows_bare, web, ((),))

    def test_another_making(self):
        self.spoilt(shows_bare, lone((0, 1)), ((0, 1), ((0,), (1,)), ((),)))


class TestRows(MakingCase):
    def test_all_makings_of_few_rows(self):
        makings = some_makings((0, 4, 9), 0, 3)
        for web in all_webs((0, 4, 9)):
            for making in makings:
                self.assertEqual(self.told_truth(shows_rows, web, making), is_rows(web, making), (web, making))

    def test_rows(self):
        web = beside_each_other(row_of((4, 1, FAR, 2)), row_of((3, 0)), lone((7,)))
        right = ((4, 1, FAR, 2), (0, 3), (7,))
        for making in (right, right[::-1], ((2, FAR, 1, 4), (7,), (3, 0))):
            self.assertTrue(self.told_truth(shows_rows, web, making))
        self.spoilt(
            shows_rows,
            web,
            (
                right[:2],
                right + ((7,),),
                right + ((),),
                right + ((5,),),
                ((4, 1, FAR), (2,), (0, 3), (7,)),
                ((4, 1, 2, FAR), (0, 3), (7,)),
                ((4, 1, FAR, 2), (0, 3, 7)),
                ((4, 1, FAR, 2, 2), (0, 3), (7,)),
                ((4, True, FAR, 2), (0, 3), (7,)),
                ((4, 1, FAR, 2), (False, 3), (7,)),
                (4, 1, FAR, 2, 0, 3, 7),
            ),
        )

    def test_no_rows(self):
        self.spoilt(shows_rows, ring_of((0, 1, 2)), some_makings((0, 1, 2), 1, 3))
        self.spoilt(shows_rows, star_of(0, (1, 2, 3)), [(order,) for order in itertools.permutations(range(4))])


class TestTrees(MakingCase):
    def test_all_orders(self):
        for web in all_webs((0, 4, 9, 11)):
            for many in range(5):
                for order in itertools.permutations((0, 4, 9, 11), many):
                    self.assertEqual(self.told_truth(shows_trees, web, order), is_trees(web, order), (web, order))

    def test_trees(self):
        web = made_web(range(7), ((0, 1), (0, 2), (1, 3), (1, 4), (2, 5), (5, 6)))
        for making in ((0, 1, 2, 3, 4, 5, 6), (6, 5, 2, 0, 1, 4, 3), (3, 1, 4, 0, 2, 5, 6)):
            self.assertTrue(self.told_truth(shows_trees, web, making))
        self.spoilt(
            shows_trees,
            web,
            (
                (1, 2, 0, 3, 4, 5, 6),
                (0, 1, 2, 3, 4, 5),
                (0, 1, 2, 3, 4, 5, 6, 6),
                (0, 1, 2, 3, 4, 5, 7),
                (0, True, 2, 3, 4, 5, 6),
                (False, 1, 2, 3, 4, 5, 6),
                ((0, 1, 2, 3, 4, 5, 6),),
                ("0", 1, 2, 3, 4, 5, 6),
            ),
        )

    def test_a_ring_is_none(self):
        self.spoilt(shows_trees, ring_of((0, 1, 2, 3)), list(itertools.permutations(range(4))))


class TestRings(MakingCase):
    def test_all_makings_of_few_pieces(self):
        makings = some_makings((0, 4, 9), 1, 2)
        for web in all_webs((0, 4, 9)):
            for making in makings:
                self.assertEqual(self.told_truth(shows_rings, web, making), is_rings(web, making), (web, making))

    def test_rings_and_single_ties(self):
        right = ((0, 1, 2), (2, 9), (9, 3), (4, 3, 5), (5, 7, 6))
        for making in (right, right[::-1], ((2, 0, 1), (9, 2), (3, 9), (3, 4, 5), (6, 5, 7))):
            self.assertTrue(self.told_truth(shows_rings, CHAIN, making), making)
        # The two first pieces do not touch, and the third one touches both.
        self.spoilt(shows_rings, CHAIN, (((0, 1, 2), (9, 3), (2, 9), (4, 3, 5), (5, 7, 6)),))
        for left_out in range(5):
            self.spoilt(shows_rings, CHAIN, (right[:left_out] + right[left_out + 1 :],))
        for twice in right:
            self.spoilt(shows_rings, CHAIN, (right + (twice,), (twice,) + right))
        self.spoilt(shows_rings, CHAIN, (right + ((8,),), right + ((),), right + ((0, 9),), right + ((8, 8),)))
        self.spoilt(shows_rings, CHAIN, (((0, True, 2),) + right[1:], ((False, 1, 2),) + right[1:], right[0]))

    def test_two_rings_with_a_tie_in_common(self):
        web = BARS["rings"][0]
        self.spoilt(shows_rings, web, some_makings((0, 1, 2, 3), 2, 2))

    def test_a_piece_that_comes_to_a_place_twice(self):
        web = beside_each_other(ring_of((0, 1, 2)), ring_of((0, 3, 4)))
        self.assertTrue(self.told_truth(shows_rings, web, ((0, 1, 2), (0, 3, 4))))
        self.spoilt(shows_rings, web, (((0, 1, 2, 0, 3, 4),), ((1, 2, 0, 3, 4, 0),)))

    def test_a_ring_is_not_made_of_single_ties(self):
        self.spoilt(shows_rings, ring_of((0, 1, 2)), (((0, 1), (1, 2), (0, 2)), ((0, 1), (0, 2), (1, 2))))

    def test_a_long_ring(self):
        order = (3, 8, 0, FAR, 5, FARTHEST, 1, 9, 2, 6)
        web = ring_of(order)
        self.assertTrue(self.told_truth(shows_rings, web, (order,)))
        self.assertTrue(self.told_truth(shows_rings, web, (order[4:] + order[:4],)))
        self.spoilt(shows_rings, web, ((tuple(sorted(order)),), (order[:-1],), (order[1::-1] + order[2:],)))
