"""[17]: layings, and webs that are alike."""

import itertools
import random

from tests.helper import FAR, FAR_NAMES, FARTHEST, SAMPLES, WebCase
from tests.helper import across, all_tied, all_webs, beside_each_other, lone, made_web, prism, ring_of, row_of, star_of
from tests.helper import holds_truth, is_laying, renamed
from webdown.layings import alike, laying_holds

# Of the row with the ring of three at its end each place is unlike each other one, but for the ring's last two.
ONE = made_web((0, 1, 2, 3, 4), ((0, 1), (1, 2), (2, 3), (2, 4), (3, 4)))
OTHER = renamed(ONE, (40, 7, 12, 3, FAR))
LAYING = (40, 7, 12, 3, FAR)


def has_laying(one, other):
    return any(is_laying(one, other, order) for order in itertools.permutations(other[0]))


def way_back(one, other, laying):
    return tuple(one[0][laying.index(place)] for place in other[0])


class TestLayingHolds(WebCase):
    def test_it_holds(self):
        self.assertTrue(self.told_truth(laying_holds, ONE, OTHER, LAYING))
        self.assertTrue(self.told_truth(laying_holds, ONE, OTHER, (40, 7, 12, FAR, 3)))

    def test_its_way_back(self):
        self.assertEqual(way_back(ONE, OTHER, LAYING), (3, 1, 2, 0, 4))
        self.assertTrue(self.told_truth(laying_holds, OTHER, ONE, (3, 1, 2, 0, 4)))

    def test_each_web_on_itself(self):
        for web in SAMPLES:
            self.assertTrue(self.told_truth(laying_holds, web, web, web[0]))

    def test_no_places(self):
        self.assertTrue(self.told_truth(laying_holds, ((), ()), ((), ()), ()))
        self.assertFalse(self.told_truth(laying_holds, ((), ()), ((), ()), (0,)))
        self.assertFalse(self.told_truth(laying_holds, ((), ()), lone((0,)), ()))
        self.assertFalse(self.told_truth(laying_holds, ((), ()), lone((0,)), (0,)))
        self.assertFalse(self.told_truth(laying_holds, lone((0,)), ((), ()), ()))
        self.assertFalse(self.told_truth(laying_holds, lone((0,)), ((), ()), (0,)))

    def test_a_place_twice(self):
        for one, other in itertools.permutations(range(5), 2):
            laying = list(LAYING)
            laying[one] = laying[other]
            self.assertFalse(self.told_truth(laying_holds, ONE, OTHER, tuple(laying)))

    def test_a_place_twice_and_fewer_places(self):
        self.assertFalse(self.told_truth(laying_holds, lone((0, 1, 2)), lone((0, 1)), (0, 1, 1)))
        self.assertFalse(self.told_truth(laying_holds, lone((0, 1)), lone((0,)), (0, 0)))
        self.assertFalse(self.told_truth(laying_holds, row_of((0, 1, 2)), row_of((0, 1)), (0, 1, 0)))
        self.assertFalse(self.told_truth(laying_holds, lone((0, 1)), lone((0, 1, 2)), (0, 1, 2)))

    def test_a_strange_number(self):
        for stranger in (-1, 0, 1, 2, 5, FAR + 1, FARTHEST):
            for spot in range(5):
                laying = LAYING[:spot] + (stranger,) + LAYING[spot + 1 :]
                self.assertFalse(self.told_truth(laying_holds, ONE, OTHER, laying))

    def test_one_too_few(self):
        for spot in range(5):
            self.assertFalse(self.told_truth(laying_holds, ONE, OTHER, LAYING[:spot] + LAYING[spot + 1 :]))
        self.assertFalse(self.told_truth(laying_holds, lone((0, 1)), lone((0, 1)), (0,)))

    def test_one_too_many(self):
        for spot in range(6):
            for besides in LAYING + (99,):
                self.assertFalse(self.told_truth(laying_holds, ONE, OTHER, LAYING[:spot] + (besides,) + LAYING[spot:]))
        self.assertFalse(self.told_truth(laying_holds, lone((0, 1)), lone((0, 1)), (0, 1, 1)))
        self.assertFalse(self.told_truth(laying_holds, lone((0, 1)), lone((0, 1)), (0, 1, 2)))

    def test_two_exchanged(self):
        for one, other in itertools.combinations(range(5), 2):
            laying = list(LAYING)
            laying[one], laying[other] = laying[other], laying[one]
            self.assertEqual(self.told_truth(laying_holds, ONE, OTHER, tuple(laying)), (one, other) == (3, 4))

    def test_one_tie_more_or_less(self):
        for tie in itertools.combinations(OTHER[0], 2):
            changed = (OTHER[0], tuple(sorted(set(OTHER[1]) ^ {tie})))
            self.assertFalse(self.told_truth(laying_holds, ONE, changed, LAYING))
            self.assertFalse(self.told_truth(laying_holds, changed, ONE, way_back(ONE, OTHER, LAYING)))

    def test_truths_stand_for_no_number(self):
        web = row_of((0, 1, 2))
        self.assertTrue(self.told_truth(laying_holds, web, web, (0, 1, 2)))
        self.assertFalse(self.told_truth(laying_holds, web, web, (0, True, 2)))
        self.assertFalse(self.told_truth(laying_holds, web, web, (False, 1, 2)))

    def test_other_things_than_numbers(self):
        web = row_of((0, 1, 2))
        for laying in ((None, 1, 2), (0, "1", 2), (0, 1, (2,)), ((0, 1, 2),), ("012",), (None, None, None)):
            with self.subTest(laying):
                self.assertFalse(self.told_truth(laying_holds, web, web, laying))
        for laying in (None, 0, "", "012"):
            with self.subTest(laying):
                self.assertFalse(self.told_truth(laying_holds, web, web, laying))
                self.assertFalse(self.told_truth(laying_holds, ((), ()), ((), ()), laying))

    def test_every_tuple_for_every_two_webs_of_three_places(self):
        for one in all_webs((0, 4, 9)):
            for other in all_webs((1, 2, 30)):
                for laying in itertools.product((1, 2, 30, 4), repeat=3):
                    self.assertEqual(self.told_truth(laying_holds, one, other, laying), is_laying(one, other, laying))


class TestAlike(WebCase):
    def asked(self, one, other):
        laying = self.told(alike, one, other)
        self.assertFalse(holds_truth(laying), laying)
        if laying is not None:
            self.assertIs(type(laying), tuple)
            self.assertTrue(is_laying(one, other, laying), (one, other, laying))
        return laying

    def are_alike(self, one, other):
        self.assertIsNotNone(self.asked(one, other), (one, other))
        self.assertIsNotNone(self.asked(other, one), (one, other))

    def are_unlike(self, one, other):
        self.assertIsNone(self.asked(one, other), (one, other))
        self.assertIsNone(self.asked(other, one), (one, other))

    def test_each_web_and_itself(self):
        for web in SAMPLES:
            self.are_alike(web, web)

    def test_each_web_under_other_names(self):
        chance = random.Random(17)
        for web in SAMPLES:
            for time in range(3):
                names = [*FAR_NAMES, 1, 2, 3][: len(web[0])]
                chance.shuffle(names)
                self.are_alike(web, renamed(web, names))

    def test_no_places(self):
        self.assertEqual(self.asked(((), ()), ((), ())), ())
        self.are_unlike(((), ()), lone((0,)))

    def test_no_two_samples_are_alike(self):
        for one, other in itertools.combinations(SAMPLES, 2):
            self.are_unlike(one, other)

    def test_every_two_webs_of_four_places(self):
        for one in all_webs((0, 1, 2, 3)):
            for other in all_webs((1, 20, 21, FARTHEST)):
                self.assertEqual(self.asked(one, other) is not None, has_laying(one, other))

    def test_unlike_numbers_of_places_or_ties(self):
        self.are_unlike(lone((0, 1)), lone((0, 1, 2)))
        self.are_unlike(row_of((0, 1, 2)), ring_of((0, 1, 2)))
        self.are_unlike(row_of((0, 1, 2)), beside_each_other(row_of((0, 1)), lone((2,))))
        self.are_unlike(beside_each_other(row_of((0, 1)), lone((2,))), row_of((0, 1)))

    def test_equal_counts(self):
        self.are_unlike(row_of((0, 1, 2, 3)), star_of(0, (1, 2, 3)))
        self.are_unlike(row_of((0, 1, 2, 3, 4)), made_web(range(5), ((0, 1), (0, 2), (0, 3), (3, 4))))
        spider = made_web(range(6), ((0, 1), (0, 2), (0, 3), (3, 4), (4, 5)))
        fork = made_web(range(6), ((0, 1), (0, 2), (0, 3), (2, 4), (3, 5)))
        self.are_unlike(spider, fork)

    def test_equal_numbers_of_places_beside_each_place(self):
        two_of_three = beside_each_other(ring_of((0, 2, 4)), ring_of((1, 3, 5)))
        self.are_unlike(ring_of((0, 1, 2, 3, 4, 5)), two_of_three)
        self.are_unlike(across((0, 1, 2), (3, 4, 5)), prism((0, 1, 2, 3, 4, 5)))
        self.are_unlike(ring_of((5, 3, 0, 1, 4, 2)), two_of_three)
        self.are_unlike(across((0, 2, 4), (1, 3, 5)), prism((0, 4, 2, 3, 1, 5)))

    def test_rings_of_ten_places_in_all(self):
        rings = [ring_of(tuple(range(10)))]
        rings += [beside_each_other(ring_of(range(many)), ring_of(range(many, 10))) for many in (3, 4, 5)]
        rings += [beside_each_other(ring_of((0, 1, 2)), ring_of((3, 4, 5)), ring_of((6, 7, 8, 9)))]
        for one, other in itertools.combinations(rings, 2):
            self.are_unlike(one, other)
        chance = random.Random(10)
        for web in rings:
            names = list(range(5, 105, 10))
            chance.shuffle(names)
            self.are_alike(web, renamed(web, names))

    def test_many_layings_on_itself(self):
        for web in (lone(range(10)), all_tied(range(10)), across(range(5), range(5, 10)), star_of(9, range(9))):
            names = (FARTHEST, 3, 1, 4, 15, 9, 2, 6, 5, 35)
            self.are_alike(web, renamed(web, names))

    def test_ten_places_with_one_tie_more_or_less(self):
        self.are_alike(made_web(range(10), ((0, 1),)), made_web(range(10), ((8, 9),)))
        self.are_unlike(made_web(range(10), ((0, 1), (2, 3))), made_web(range(10), ((8, 9), (8, 7))))
        places, full = all_tied(range(10))
        self.are_alike((places, full[1:]), (places, full[:-1]))
        self.are_unlike((places, full[2:]), (places, full[1:-1]))

    def test_seven_lone_places_beside_others(self):
        row = beside_each_other(row_of((0, 1, 2)), lone(range(3, 10)))
        self.are_alike(row, beside_each_other(row_of((7, 9, 8)), lone(range(7))))
        self.are_unlike(row, beside_each_other(ring_of((7, 9, 8)), lone(range(7))))
