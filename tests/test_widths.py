"""[31] to [33], and [5] as far as it speaks of widths: places near a place, orders of a width, and papers of none."""

import functools
import itertools
import random

from tests.helper import CHAIN, FAR, FAR_NAMES, FARTHEST, SAMPLES, STRANGE, WebCase
from tests.helper import across, all_tied, all_webs, are_numbers, are_tuples_of_numbers, beside_each_other
from tests.helper import few_placed_webs, is_order_of_width, is_right_web, is_wide_paper, lone, made_web
from tests.helper import near_by_ways, prism, renamed, ring_of, row_of, spoilings, star_of, wheel
from webdown.errors import NoPlace
from webdown.steps import stepped, steps_of
from webdown.widths import near, slim, width_holds, width_of


def is_told(web, k, told):
    """By the words of [33], of whatever tuple."""
    if type(told) is not tuple or len(told) != 2:
        return False
    if told[0] == "slim":
        return are_numbers(told[1]) and is_order_of_width(web, k, told[1])
    return told[0] == "wide" and are_tuples_of_numbers(told[1]) and is_wide_paper(web, k, told[1])


def least_width(web):
    """The least width of all orders: the last place may be any, and the others go ahead of it as well as may be."""

    @functools.lru_cache(maxsize=None)
    def least(gone):
        return min(
            (max(least(gone - {place}), len(near_by_ways(web, gone - {place}, place))) for place in gone), default=0
        )

    return least(frozenset(web[0]))


def square(side):
    """Places in rows and files, each tied with those next to it."""
    spots = list(itertools.product(range(side), repeat=2))
    ties = [(a, b) for a, b in itertools.combinations(spots, 2) if abs(a[0] - b[0]) + abs(a[1] - b[1]) == 1]
    number = {spot: side * spot[0] + spot[1] for spot in spots}
    return made_web(number.values(), [(number[a], number[b]) for a, b in ties])


def some_webs(chance, times):
    for time in range(times):
        many = chance.randint(6, 10)
        pairs = list(itertools.combinations(sorted(chance.sample(range(60), many)), 2))
        yield made_web({place for pair in pairs for place in pair}, chance.sample(pairs, chance.randint(3, len(pairs))))


# Webs, and their widths as everybody knows them.
WIDTHS = (
    (lone(()), 0),
    (lone((FAR,)), 0),
    (lone(range(10)), 0),
    (row_of((0, 1)), 1),
    (row_of(range(10)), 1),
    (star_of(4, range(4)), 1),
    (star_of(9, range(9)), 1),
    (made_web(range(7), ((0, 1), (0, 2), (1, 3), (1, 4), (2, 5), (5, 6))), 1),
    (ring_of((0, 1, 2)), 2),
    (ring_of((8, 3, FAR, 1, 9)), 2),
    (ring_of(range(10)), 2),
    (CHAIN, 2),
    (across((0, 1), range(2, 10)), 2),
    (wheel(6, (0, 8, 2, 5, 3, 11)), 3),
    (wheel(9, range(9)), 3),
    (prism(range(6)), 3),
    (square(3), 3),
    (across((0, 1, 2), (3, 4, 5)), 3),
    (across(range(5), range(5, 10)), 5),
    (beside_each_other(all_tied((0, 2, 4, 6)), ring_of((1, 3, 5)), lone((7,))), 3),
    (beside_each_other(all_tied((0, 2, 4)), all_tied((1, 3, 5, 7, 9))), 4),
    (renamed(all_tied(range(4)), FAR_NAMES[3:]), 3),
) + tuple((all_tied(range(many)), many - 1) for many in range(1, 11))


class TestNear(WebCase):
    def test_all_webs_of_few_places(self):
        for web in all_webs((0, 4, 9, FAR)):
            for many in range(4):
                for gone in itertools.permutations(web[0], many):
                    for place in set(web[0]) - set(gone):
                        expected = near_by_ways(web, gone, place)
                        self.assertEqual(self.told_tuple(near, web, gone, place), expected, (web, gone, place))

    def test_nothing_gone(self):
        for web in SAMPLES:
            for place in web[0]:
                self.assertEqual(self.told_tuple(near, web, (), place), near_by_ways(web, (), place))

    def test_ways_through_several_gone_places(self):
        row = row_of((5, 1, 8, 3, 0))
        self.assertEqual(self.told_tuple(near, row, (3, 1, 8), 5), (0,))
        self.assertEqual(self.told_tuple(near, row, (1, 3), 5), (8,))
        self.assertEqual(self.told_tuple(near, row, (8, 3), 5), (1,))
        self.assertEqual(self.told_tuple(near, row, (5, 1), 8), (3,))
        self.assertEqual(self.told_tuple(near, row, (5, 1, 3, 0), 8), ())
        self.assertEqual(self.told_tuple(near, ring_of(range(10)), (1, 2, 3, 7, 8), 0), (4, 9))
        self.assertEqual(self.told_tuple(near, star_of(9, range(9)), (9,), 4), (0, 1, 2, 3, 5, 6, 7, 8))
        # Other parts are not near, whatever is gone, nor is what lies behind a place that is not gone.
        two_rows = beside_each_other(row_of((0, 2, 4)), row_of((1, 3, 5)))
        self.assertEqual(self.told_tuple(near, two_rows, (2, 3, 5), 0), (4,))

    def test_the_place_itself_is_not_near(self):
        self.assertEqual(self.told_tuple(near, ring_of((0, 1, 2)), (1, 2), 0), ())
        self.assertEqual(self.told_tuple(near, ring_of((0, 1, 2, 3)), (1, 3), 0), (2,))

    def test_gone_in_any_order_and_twice(self):
        web = SAMPLES[-2]
        for gone in itertools.permutations((0, FAR, FARTHEST)):
            self.assertEqual(self.told_tuple(near, web, gone + gone[:2], 7), near_by_ways(web, gone, 7))
        self.assertEqual(self.told_tuple(near, row_of((0, 1, 2)), (1, 1, 1), 0), (2,))

    def test_refused(self):
        web = row_of((0, 1, FAR))
        for gone, place in (
            ((), 2),
            ((), -1),
            ((), FARTHEST),
            ((), True),
            ((1,), 2),
            ((2,), 0),
            ((1, 2), 0),
            ((2, 1), 0),
            ((1, -1), 0),
            ((FARTHEST,), 0),
            ((True,), 0),
            ((False,), 1),
            ((0,), 0),
            ((1, 0), 0),
            ((0, 1, 0), 0),
            ((0, 1, FAR), FAR),
            ((2,), 2),
        ):
            with self.subTest(gone=gone, place=place):
                self.refused(NoPlace, near, web, gone, place)
        self.refused(NoPlace, near, ((), ()), (), 0)
        self.refused(NoPlace, near, lone((3,)), (0,), 3)


class WidthCase(WebCase):
    def look_at(self, web, width):
        """Each k is told, and that a lesser one than the width is wide and no other."""
        self.assertEqual(self.told(width_of, web), width, web)
        for k in range(10):
            told = self.told_tuple(slim, web, k)
            self.assertEqual(told[0], "wide" if k < width else "slim", (web, k))
            self.assertTrue(is_told(web, k, told), (web, k, told))
            self.assertTrue(self.told_truth(width_holds, web, k, told), (web, k, told))


class TestWidths(WidthCase):
    def test_all_webs_of_few_places(self):
        for web in few_placed_webs(4):
            self.look_at(web, least_width(web))

    def test_known_widths(self):
        for web, width in WIDTHS:
            self.assertTrue(is_right_web(web))
            self.look_at(web, width)

    def test_samples(self):
        for web in SAMPLES:
            self.look_at(web, least_width(web))

    def test_webs_by_chance(self):
        for web in some_webs(random.Random(32), 12):
            self.look_at(web, least_width(web))

    def test_the_width_is_a_whole_number(self):
        for web, width in WIDTHS:
            self.assertIs(type(width_of(web)), int)

    def test_an_order_that_is_not_found_at_once(self):
        # Whether always the least or always the greatest place goes that may: both end where none may go.
        ties = ((0, 4), (0, 6), (1, 3), (1, 4), (1, 5), (2, 3), (2, 4), (2, 5), (2, 6), (3, 7), (5, 7), (6, 7))
        self.look_at(made_web(range(8), ties), 3)

    def test_no_step_raises_it(self):
        webs = few_placed_webs(4) + list(SAMPLES) + list(some_webs(random.Random(5), 5))
        for web in webs:
            width = width_of(web)
            for step in steps_of(web):
                self.assertLessEqual(width_of(stepped(web, step)), width, (web, step))

    def test_somewhat_beyond(self):
        web = ring_of((0, 1, 2, 3))
        for k in (10, 11, FAR):
            told = self.told_tuple(slim, web, k)
            self.assertEqual(told[0], "slim")
            self.assertTrue(self.told_truth(width_holds, web, k, told))


class TestWidthHolds(WidthCase):
    def spoilt(self, web, k, tellings):
        for told in tellings:
            with self.subTest(web=web, k=k, told=told):
                self.assertFalse(self.told_truth(width_holds, web, k, told))

    def test_all_orders(self):
        for web in all_webs((0, 4, 9, FAR)):
            for order in itertools.permutations(web[0]):
                for k in range(4):
                    expected = is_order_of_width(web, k, order)
                    self.assertEqual(self.told_truth(width_holds, web, k, ("slim", order)), expected, (web, k, order))

    def test_all_sets_of_few_places(self):
        for web in few_placed_webs(3):
            subsets = [part for many in range(4) for part in itertools.combinations(web[0], many)]
            for many in range(len(subsets) + 1):
                for sets in itertools.combinations(subsets, many):
                    for k in range(3):
                        expected = is_wide_paper(web, k, sets)
                        self.assertEqual(self.told_truth(width_holds, web, k, ("wide", sets)), expected, (web, k, sets))

    def test_never_both(self):
        for web in few_placed_webs(3):
            orders = list(itertools.permutations(web[0]))
            subsets = [part for many in range(len(web[0])) for part in itertools.combinations(web[0], many)]
            papers = [sets for many in range(len(subsets) + 1) for sets in itertools.combinations(subsets, many)]
            for k in range(3):
                slims = any(width_holds(web, k, ("slim", order)) for order in orders)
                self.assertNotEqual(slims, any(width_holds(web, k, ("wide", sets)) for sets in papers), (web, k))

    def test_an_order_spoilt(self):
        web, right = row_of((0, 1, 2, 3)), (0, 3, 1, 2)
        self.assertTrue(self.told_truth(width_holds, web, 1, ("slim", right)))
        self.spoilt(
            web,
            1,
            (
                ("slim", (1, 0, 2, 3)),
                ("slim", right[:3]),
                ("slim", right + (2,)),
                ("slim", right + (4,)),
                ("slim", (0, 3, 1, 4)),
                ("slim", (0, 3, 1, 1)),
                ("slim", (False, 3, 1, 2)),
                ("slim", (0, 3, True, 2)),
                ("slim", (0, 3, (1,), 2)),
                ("slim", (0, 3, "1", 2)),
                ("slim", (0, 3, None, 2)),
                ("slim", 0),
                ("slim", None),
                ("slim", ()),
                ("slim",),
                ("slim", right, right),
                ("wide", right),
                ("broad", right),
                (right, "slim"),
                ("", right),
                right,
            ),
        )
        self.spoilt(web, 0, (("slim", right),))

    def test_sets_spoilt(self):
        # Lone places may go, those of the ring not, since each has two near it.
        web, right = beside_each_other(ring_of((0, 1, 2)), lone((4, 7))), ((), (7,), (4,), (4, 7))
        for sets in (right, right[::-1], right + right, right + ((0,), (0, 7), (0, 4, 7), (0, 4), (0, 1))):
            closed = is_wide_paper(web, 1, sets)
            self.assertEqual(self.told_truth(width_holds, web, 1, ("wide", sets)), closed, sets)
        self.assertTrue(width_holds(web, 1, ("wide", right[::-1] + right)))
        self.assertTrue(width_holds(web, 0, ("wide", right)))
        for left_out in range(4):
            self.spoilt(web, 1, (("wide", right[:left_out] + right[left_out + 1 :]),))
        self.spoilt(
            web,
            1,
            (
                ("wide", right + (web[0],)),
                ("wide", ()),
                ("wide", ((), (7,), (4,), (7, 4))),
                ("wide", right + ((7, 4),)),
                ("wide", right + ((4, 4),)),
                ("wide", right + ((3,),)),
                ("wide", right + ((-1,),)),
                ("wide", right + ((True,),)),
                ("wide", right + ((None,),)),
                ("wide", right + (("",),)),
                ("wide", right + (((),),)),
                ("wide", right + (None,)),
                ("wide", right + ("",)),
                ("wide", right + (0,)),
                ("wide", None),
                ("wide", 0),
                ("wide", ""),
                ("wide",),
                ("wide", right, right),
                ("slim", right),
                ("narrow", right),
                right,
            ),
        )
        self.spoilt(web, 2, (("wide", right),))

    def test_all_subsets_without_the_last(self):
        web = all_tied((0, 3, FAR))
        subsets = tuple(part for many in range(3) for part in itertools.combinations(web[0], many))
        self.assertFalse(width_holds(web, 0, ("wide", subsets)))
        self.assertTrue(width_holds(web, 0, ("wide", ((),))))
        self.assertTrue(width_holds(web, 1, ("wide", ((),))))
        self.assertFalse(width_holds(web, 2, ("wide", ((),))))

    def test_spoilt_at_each_spot(self):
        ring_and_more = beside_each_other(ring_of((0, 1, 5)), row_of((3, 9)))
        for web in (lone(()), lone((0,)), row_of((0, 1, 2)), ring_of((0, 2, 1)), star_of(0, (1, 2, 7)), ring_and_more):
            for k in range(4):
                for told in spoilings(slim(web, k)):
                    self.assertEqual(self.told_truth(width_holds, web, k, told), is_told(web, k, told), (web, k, told))

    def test_strange_things(self):
        for web in (lone(()), lone((0, 1)), row_of((0, 1)), ring_of((0, 1, 2))):
            self.spoilt(web, 1, STRANGE)
            for word in ("slim", "wide"):
                for strange in STRANGE:
                    told = (word, strange)
                    self.assertEqual(self.told_truth(width_holds, web, 0, told), is_told(web, 0, told), (web, told))
                self.spoilt(web, 1, ((word, strange, ()) for strange in STRANGE))

    def test_the_web_without_places(self):
        self.assertTrue(self.told_truth(width_holds, ((), ()), 0, ("slim", ())))
        # Here () is all places together.
        self.spoilt(((), ()), 0, (("wide", ()), ("wide", ((),)), ("wide", ((), ()))))

    def test_ten_places(self):
        for web in (square(3), wheel(9, range(9)), prism((0, 7, 10, FAR, FAR + 1, FARTHEST))):
            self.assertTrue(width_holds(web, 3, slim(web, 3)))
            self.spoilt(web, 2, (slim(web, 3),))
            self.assertTrue(width_holds(web, 2, slim(web, 2)))
            self.spoilt(web, 3, (slim(web, 2),))
