"""[34] to [36]: trees of pieces that hold and that do not, the tree of an order, and pieces led along heaps."""

import itertools
import random

from tests.helper import CHAIN, FAR, FARTHEST, SAMPLES, STRANGE, WebCase
from tests.helper import all_tied, all_webs, are_holding_heaps, are_numbers, are_tuples_of_numbers, beside_each_other
from tests.helper import few_placed_webs, hangs_together, is_order_of_width, lone, made_web, near_by_ways, prism
from tests.helper import ring_of, rises, row_of, some_heaps, some_row, spoilings, star_of, wheel
from webdown.heaps import heaps_of_row
from webdown.pieces import led, tree_holds, tree_of
from webdown.widths import slim, width_of


def is_tree(web, k, pieces, links):
    """By the words of [34]; the pieces of a place hang together just where all but the last are linked to another."""
    if not are_tuples_of_numbers(pieces) or not are_numbers(links):
        return False
    if not all(rises(piece) and set(piece) <= set(web[0]) and len(piece) <= k + 1 for piece in pieces):
        return False
    if len(links) != max(len(pieces) - 1, 0) or not all(n < link < len(pieces) for n, link in enumerate(links)):
        return False
    tree = made_web(range(len(pieces)), enumerate(links))
    return all(any(set(tie) <= set(piece) for piece in pieces) for tie in web[1]) and all(
        hangs_together(tree, [n for n, piece in enumerate(pieces) if place in piece]) for place in web[0]
    )


def width_of_order(web, order):
    return max((len(near_by_ways(web, order[:spot], place)) for spot, place in enumerate(order)), default=0)


class TreeCase(WebCase):
    def holds(self, web, k, pieces, links):
        self.assertTrue(self.told_truth(tree_holds, web, k, pieces, links), (web, k, pieces, links))

    def spoilt(self, web, k, *trees):
        for pieces, links in trees:
            self.assertFalse(self.told_truth(tree_holds, web, k, pieces, links), (web, k, pieces, links))

    def compare(self, web, k, pieces, links):
        told = self.told_truth(tree_holds, web, k, pieces, links)
        self.assertEqual(told, is_tree(web, k, pieces, links), (web, k, pieces, links))


class TestTreeHolds(TreeCase):
    def test_all_trees_of_few_pieces(self):
        for places, most in (((0, 5), 3), ((0, 5, FAR), 2)):
            subsets = [part for many in range(len(places) + 1) for part in itertools.combinations(places, many)]
            for web in all_webs(places):
                for many in range(most + 1):
                    for pieces in itertools.product(subsets, repeat=many):
                        for links in itertools.product(range(most + 1), repeat=max(many - 1, 0)):
                            for k in range(3):
                                self.compare(web, k, pieces, links)

    def test_a_row(self):
        web, pieces, links = row_of((0, 1, 2, 3)), ((0, 1), (1, 2), (2, 3)), (1, 2)
        self.holds(web, 1, pieces, links)
        self.holds(web, 9, pieces, links)
        self.holds(web, 1, ((0, 1), (2, 3), (1, 2)), (2, 2))
        self.holds(web, 1, ((), (0, 1), (), (1, 2), (2, 3), ()), (2, 3, 4, 4, 5))
        self.holds(web, 3, ((0, 1, 2, 3),), ())
        self.spoilt(
            web,
            1,
            # A piece that is not rising, that has a place twice, a strange place or a truth.
            (((1, 0), (1, 2), (2, 3)), links),
            (((0, 0, 1), (1, 2), (2, 3)), links),
            (((0, 1), (1, 2), (2, 3, 4)), links),
            (((0, 1), (1, 2), (2, 3), (4,)), (1, 2, 3)),
            (((False, 1), (1, 2), (2, 3)), links),
            (((0, True), (1, 2), (2, 3)), links),
            # A place in no piece, a tie in no piece.
            (((0, 1), (1, 2)), (1,)),
            (((0, 1), (1, 2), (3,)), links),
            (((0, 1), (2,), (2, 3)), links),
            # A link to itself, to a piece ahead, to none; a link too few, too many; a truth.
            (pieces, (0, 2)),
            (pieces, (1, 1)),
            (pieces, (1, 0)),
            (pieces, (1, 3)),
            (pieces, (-2, 2)),
            (pieces, (1, -1)),
            (pieces, (1, FARTHEST)),
            (pieces, (1,)),
            (pieces, ()),
            (pieces, (1, 2, 3)),
            (pieces, (1, 2, 2)),
            (pieces, (True, 2)),
            # The pieces of 1 do not hang together; those of 2 neither.
            (pieces, (2, 2)),
            (((2, 3), (0, 1), (1, 2)), (1, 2)),
            (((1, 2), (0, 1), (2, 3)), (1, 2)),
            ((), ()),
        )
        # A piece too great.
        self.spoilt(web, 0, (pieces, links))
        self.spoilt(web, 2, (((0, 1, 2, 3),), ()))

    def test_no_pieces_and_one_piece(self):
        for k in range(10):
            self.holds(((), ()), k, (), ())
            self.holds(((), ()), k, ((),), ())
            self.holds(((), ()), k, ((), (), ()), (2, 2))
            self.spoilt(((), ()), k, ((), (0,)), (((),), (0,)), (((),), (1,)), (((0,),), ()), (((), ()), ()))
            self.holds(lone((7,)), k, ((7,),), ())
            self.spoilt(lone((7,)), k, ((), ()), (((),), ()), (((7,),), (0,)), (((7,),), (1,)), (((7, 8),), ()))
        for many in range(1, 11):
            web = all_tied(range(many))
            self.holds(web, many - 1, (web[0],), ())
            if many > 1:
                self.spoilt(web, many - 2, ((web[0],), ()))

    def test_lone_places(self):
        self.holds(lone((2, 5, FAR)), 0, ((FAR,), (2,), (5,)), (1, 2))
        self.holds(lone((2, 5, FAR)), 0, ((FAR,), (2,), (5,)), (2, 2))
        self.spoilt(lone((2, 5, FAR)), 0, (((FAR,), (2,), (2,)), (2, 2)), (((FAR,), (2,), (5,), (FAR,)), (1, 2, 3)))
        self.holds(lone((2, 5, FAR)), 0, ((FAR,), (2,), (5,), (FAR,)), (3, 2, 3))

    def test_spoilt_at_each_spot(self):
        for web, pieces, links in (
            (row_of((0, 1, 2)), ((0, 1), (1, 2)), (1,)),
            (star_of(0, (1, 2, 3)), ((0, 1), (0, 2), (0, 3)), (1, 2)),
            (star_of(0, (1, 2, 3)), ((0, 1), (0, 2), (0, 3)), (2, 2)),
            (ring_of((0, 1, 2, 3)), ((0, 1, 2), (0, 2, 3)), (1,)),
            (beside_each_other(row_of((0, 1)), lone((4,))), ((0, 1), (), (4,)), (2, 2)),
        ):
            self.holds(web, 2, pieces, links)
            for k in (1, 2):
                for spoilt in spoilings(pieces):
                    self.compare(web, k, spoilt, links)
                for spoilt in spoilings(links):
                    self.compare(web, k, pieces, spoilt)

    def test_strange_things(self):
        for web in (((), ()), lone((0,)), row_of((0, 1))):
            for strange in STRANGE:
                for other in ((), (1,), ((0, 1),), ((0,), (0, 1))):
                    self.compare(web, 3, strange, other)
                    self.compare(web, 3, other, strange)


class TestTreeOf(TreeCase):
    def test_the_very_tuples(self):
        for web, order, tree in (
            (((), ()), (), ((), ())),
            (lone((3,)), (3,), (((3,),), ())),
            (lone((0, 3, FAR)), (3, FAR, 0), (((3,), (FAR,), (0,)), (1, 2))),
            (row_of((0, 1, 2)), (0, 1, 2), (((0, 1), (1, 2), (2,)), (1, 2))),
            (row_of((0, 1, 2)), (1, 0, 2), (((0, 1, 2), (0, 2), (2,)), (1, 2))),
            (row_of((0, 1, 2)), (0, 2, 1), (((0, 1), (1, 2), (1,)), (2, 2))),
            (star_of(5, (0, 2, 9)), (0, 2, 9, 5), (((0, 5), (2, 5), (5, 9), (5,)), (3, 3, 3))),
            (
                star_of(5, (0, 2, 9)),
                (5, 9, 0, 2),
                (((0, 2, 5, 9), (0, 2, 9), (0, 2), (2,)), (1, 2, 3)),
            ),
            (ring_of((0, 1, 2, 3)), (3, 0, 1, 2), (((0, 2, 3), (0, 1, 2), (1, 2), (2,)), (1, 2, 3))),
            (ring_of((0, 1, 2, 3)), (0, 2, 1, 3), (((0, 1, 3), (1, 2, 3), (1, 3), (3,)), (2, 2, 3))),
            (
                beside_each_other(row_of((0, 7)), row_of((1, 4)), lone((FAR,))),
                (7, FAR, 4, 0, 1),
                (((0, 7), (FAR,), (1, 4), (0,), (1,)), (3, 2, 4, 4)),
            ),
        ):
            self.assertEqual(self.told_tuple(tree_of, web, order), tree, (web, order))

    def look_at(self, web, order):
        pieces, links = self.told_tuple(tree_of, web, order)
        near = [near_by_ways(web, order[:spot], place) for spot, place in enumerate(order)]
        self.assertEqual(pieces, tuple(tuple(sorted(near[n] + (place,))) for n, place in enumerate(order)))
        self.assertEqual(len(links), max(len(order) - 1, 0))
        for spot, link in enumerate(links):
            earliest = [n for n, place in enumerate(order) if place in near[spot]][:1]
            self.assertEqual([link], earliest or [spot + 1], (web, order))
        width = width_of_order(web, order)
        self.assertTrue(is_order_of_width(web, width, order))
        self.holds(web, width, pieces, links)
        if width > 0:
            self.spoilt(web, width - 1, (pieces, links))

    def test_all_orders(self):
        for web in few_placed_webs(4):
            for order in itertools.permutations(web[0]):
                self.look_at(web, order)

    def test_samples(self):
        chance = random.Random(35)
        for web in SAMPLES + (CHAIN,):
            self.look_at(web, slim(web, width_of(web))[1])
            for time in range(4):
                self.look_at(web, tuple(chance.sample(web[0], len(web[0]))))


class TestLed(TreeCase):
    def test_the_very_tuples(self):
        ring, three = ring_of((0, 1, 2, 3)), ring_of((4, 9, FAR))
        heaps = ((0,), (1, 2), (3,))
        self.assertTrue(are_holding_heaps(three, ring, heaps))
        self.assertEqual(self.told_tuple(led, three, heaps, ((0, 1, 2), (0, 2, 3))), ((4, 9), (4, 9, FAR)))
        self.assertEqual(self.told_tuple(led, three, heaps, ((), (3,), (1, 2), ())), ((), (FAR,), (9,), ()))
        self.assertEqual(self.told_tuple(led, three, heaps, ()), ())
        turned = ((3,), (0, 1), (2,))
        self.assertEqual(self.told_tuple(led, three, turned, ((0, 1, 2), (0, 2, 3))), ((9, FAR), (4, 9, FAR)))
        self.assertEqual(self.told_tuple(led, ((), ()), (), ((0, 1, 2), (0, 2, 3))), ((), ()))
        # A place in no heap goes nowhere.
        self.assertEqual(self.told_tuple(led, lone((8,)), ((3,),), ((0, 1, 2), (0, 2, 3))), ((), (8,)))

    def look_at(self, little, great, heaps):
        pieces, links = tree_of(great, slim(great, width_of(great))[1])
        told = self.told_tuple(led, little, heaps, pieces)
        heap_of = dict(zip(little[0], heaps))
        expected = [[place for place in little[0] if set(heap_of[place]) & set(piece)] for piece in pieces]
        self.assertEqual([list(piece) for piece in told], expected)
        self.holds(little, width_of(great), told, links)

    def test_along_rows(self):
        chance = random.Random(36)
        for web in SAMPLES + (CHAIN, prism((3, 5, 6, 8, 12, FAR)), wheel(9, range(9))):
            for time in range(3):
                row, standing = some_row(web, chance, 6)
                self.look_at(standing[-1], web, heaps_of_row(web, row))

    def test_along_heaps_that_are_found(self):
        webs = (ring_of((0, 3, 7)), star_of(1, (0, 2, 9)), all_tied((0, 1, 2, FAR)), row_of((5, 3, 4)), lone((2, 4)))
        for little in webs:
            for great in SAMPLES:
                heaps = some_heaps(little, great)
                if heaps is not None:
                    self.look_at(little, great, heaps)
