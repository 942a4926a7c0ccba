"""[13], [14]: heaps, whether they hold, and heaps behind heaps."""

import itertools
import random

from tests.helper import FAR, FARTHEST, SAMPLES, WebCase
from tests.helper import across, all_tied, all_webs, beside_each_other, lone, made_web, ring_of, row_of
from tests.helper import are_holding_heaps, some_row
from webdown.heaps import behind, heaps_hold, heaps_of_row

# 5 is to be drawn out of 0, 1, 2; 6 out of 3, 4; 40 out of 7; 8 and 9 are spare.
LITTLE = row_of((5, 6, 40))
GREAT = beside_each_other(row_of((0, 1, 2, 3, 4, 7)), row_of((8, 9)))
HEAPS = ((0, 1, 2), (3, 4), (7,))


def own_heaps(web):
    return tuple((place,) for place in web[0])


def all_subsets(places):
    return [chosen for many in range(len(places) + 1) for chosen in itertools.combinations(places, many)]


class TestHold(WebCase):
    def test_they_hold(self):
        self.assertTrue(self.told_truth(heaps_hold, LITTLE, GREAT, HEAPS))

    def test_with_spare_places_dealt_too(self):
        great = made_web(GREAT[0], GREAT[1] + ((7, 8),))
        for last in ((7,), (7, 8), (7, 8, 9)):
            self.assertTrue(self.told_truth(heaps_hold, LITTLE, great, ((0, 1, 2), (3, 4), last)))

    def test_no_places_out_of_each_web(self):
        for web in SAMPLES:
            self.assertTrue(self.told_truth(heaps_hold, ((), ()), web, ()))

    def test_each_web_out_of_itself(self):
        for web in SAMPLES:
            self.assertTrue(self.told_truth(heaps_hold, web, web, own_heaps(web)))

    def test_not_each_tie_of_the_great_one_is_wanted(self):
        for web in SAMPLES:
            self.assertTrue(self.told_truth(heaps_hold, lone(web[0]), web, own_heaps(web)))

    def test_far_names(self):
        great = row_of((FARTHEST, 0, FAR, FARTHEST - 1))
        little = row_of((1, FAR + 5))
        self.assertTrue(self.told_truth(heaps_hold, little, great, ((0, FARTHEST), (FAR, FARTHEST - 1))))
        self.assertTrue(self.told_truth(heaps_hold, little, great, ((FAR, FARTHEST - 1), (0, FARTHEST))))
        self.assertFalse(self.told_truth(heaps_hold, little, great, ((0, FARTHEST - 1), (FAR,))))
        self.assertFalse(self.told_truth(heaps_hold, little, great, ((FARTHEST,), (FAR, FARTHEST - 1))))
        self.assertFalse(self.told_truth(heaps_hold, little, great, ((0, FARTHEST - 2), (FAR,))))

    def test_three_drawn_out_of_a_ring_of_ten(self):
        ring = ring_of(tuple(range(10)))
        little = ring_of((0, 1, 2))
        self.assertTrue(self.told_truth(heaps_hold, little, ring, ((0, 1, 9), (2, 3, 4, 5), (6, 7, 8))))
        self.assertFalse(self.told_truth(heaps_hold, little, ring, ((0, 1, 9), (2, 3, 4, 5), (7, 8))))
        self.assertFalse(self.told_truth(heaps_hold, little, ring, ((0, 1, 8), (2, 3, 4, 5), (6, 7, 9))))

    def test_a_heap_hangs_by_its_own_places_alone(self):
        self.assertFalse(self.told_truth(heaps_hold, lone((0, 1)), row_of((0, 1, 2)), ((0, 2), (1,))))
        self.assertTrue(self.told_truth(heaps_hold, lone((0, 1)), ring_of((0, 1, 2)), ((0, 2), (1,))))

    def test_every_two_heaps_of_every_web_of_four_places(self):
        for great in all_webs((1, 2, 10, 21)):
            for heaps in itertools.product(all_subsets(great[0]), repeat=2):
                for little in (lone((0, 7)), row_of((0, 7))):
                    answer = self.told_truth(heaps_hold, little, great, heaps)
                    self.assertEqual(answer, are_holding_heaps(little, great, heaps), (little, great, heaps))

    def test_every_three_heaps_of_some_webs(self):
        for great in (row_of((2, 9, 1, 4)), ring_of((1, 4, 2, 9)), made_web((1, 2, 4, 9), ((1, 2), (1, 4), (2, 4)))):
            for little in (lone((0, 1, 2)), row_of((1, 0, 2)), ring_of((0, 1, 2))):
                for heaps in itertools.product(all_subsets(great[0])[1:], repeat=3):
                    if len(set(heaps)) == 3:
                        answer = self.told_truth(heaps_hold, little, great, heaps)
                        self.assertEqual(answer, are_holding_heaps(little, great, heaps), (little, great, heaps))


class TestSpoilt(WebCase):
    def spoilt(self, *heaps):
        with self.subTest(heaps):
            self.assertFalse(self.told_truth(heaps_hold, LITTLE, GREAT, heaps))

    def test_one_empty(self):
        self.spoilt((), (3, 4), (7,))
        self.spoilt((0, 1, 2), (), (7,))
        self.spoilt((0, 1, 2), (3, 4), ())
        self.assertFalse(self.told_truth(heaps_hold, lone((0,)), GREAT, ((),)))

    def test_one_turned_round(self):
        self.spoilt((2, 1, 0), (3, 4), (7,))
        self.spoilt((0, 2, 1), (3, 4), (7,))
        self.spoilt((0, 1, 2), (4, 3), (7,))

    def test_a_place_twice_in_one(self):
        self.spoilt((0, 0, 1, 2), (3, 4), (7,))
        self.spoilt((0, 1, 2, 2), (3, 4), (7,))
        self.spoilt((0, 1, 2), (3, 4), (7, 7))

    def test_a_place_of_another_heap_besides(self):
        self.spoilt((0, 1, 2, 3), (3, 4), (7,))
        self.spoilt((0, 1, 2), (2, 3, 4), (7,))
        self.spoilt((0, 1, 2), (3, 4), (4, 7))
        self.spoilt((0, 1, 2), (3, 4, 7), (7,))

    def test_one_heap_twice(self):
        self.assertFalse(self.told_truth(heaps_hold, lone((0, 1)), GREAT, ((7,), (7,))))
        self.assertFalse(self.told_truth(heaps_hold, row_of((0, 1)), GREAT, ((3, 4), (3, 4))))

    def test_a_place_taken_out(self):
        self.spoilt((0, 2), (3, 4), (7,))
        self.spoilt((0, 1), (3, 4), (7,))
        self.spoilt((0, 1, 2), (3,), (7,))
        self.spoilt((0, 1, 2), (4,), (7,))

    def test_a_strange_number_besides(self):
        for stranger in (-1, 5, 6, 10, 40, FAR, FARTHEST):
            for spot in range(3):
                heaps = [tuple(sorted(heap + (stranger,) * (spot == k))) for k, heap in enumerate(HEAPS)]
                self.spoilt(*heaps)

    def test_a_place_that_hangs_apart_besides(self):
        self.spoilt((0, 1, 2), (3, 4), (7, 8))
        self.spoilt((0, 1, 2), (3, 4), (7, 8, 9))
        self.spoilt((0, 1, 2, 9), (3, 4), (7,))

    def test_a_heap_too_few(self):
        for spot in range(3):
            self.spoilt(*HEAPS[:spot], *HEAPS[spot + 1 :])
        self.spoilt()
        self.assertFalse(self.told_truth(heaps_hold, lone((0, 1)), GREAT, ((7,),)))
        self.assertFalse(self.told_truth(heaps_hold, lone((0,)), GREAT, ()))

    def test_a_heap_too_many(self):
        for spot in range(4):
            self.spoilt(*HEAPS[:spot], (8, 9), *HEAPS[spot:])
        self.assertFalse(self.told_truth(heaps_hold, ((), ()), GREAT, ((0,),)))
        self.assertFalse(self.told_truth(heaps_hold, ((), ()), GREAT, ((),)))
        self.assertFalse(self.told_truth(heaps_hold, ((), ()), ((), ()), ((),)))
        self.assertFalse(self.told_truth(heaps_hold, lone((0,)), GREAT, ((0,), (1,))))

    def test_two_exchanged(self):
        self.spoilt(HEAPS[1], HEAPS[0], HEAPS[2])
        self.spoilt(HEAPS[0], HEAPS[2], HEAPS[1])

    def test_both_ends_exchanged_hold_as_well(self):
        self.assertTrue(self.told_truth(heaps_hold, LITTLE, GREAT, (HEAPS[2], HEAPS[1], HEAPS[0])))

    def test_the_little_web_with_one_more_tie(self):
        self.assertFalse(self.told_truth(heaps_hold, ring_of((5, 6, 40)), GREAT, HEAPS))

    def test_the_great_web_with_one_tie_less(self):
        for tie in GREAT[1]:
            left = (GREAT[0], tuple(other for other in GREAT[1] if other != tie))
            with self.subTest(tie):
                self.assertEqual(self.told_truth(heaps_hold, LITTLE, left, HEAPS), tie == (8, 9))

    def test_truths_stand_for_no_number(self):
        self.spoilt((False, 1, 2), (3, 4), (7,))
        self.spoilt((0, True, 2), (3, 4), (7,))
        self.assertFalse(self.told_truth(heaps_hold, lone((0,)), lone((1,)), ((True,),)))

    def test_other_things_than_heaps(self):
        for heaps in ((None, None, None), (0, 3, 7), ("012", "34", "7"), ((0, 1, "2"), (3, 4), (7,)), ("", "", "")):
            self.spoilt(*heaps)
        self.spoilt(((0,), 1, 2), (3, 4), (7,))
        self.spoilt((None, 1, 2), (3, 4), (7,))
        for heaps in (None, 0, "", "0"):
            self.assertFalse(self.told_truth(heaps_hold, LITTLE, GREAT, heaps))
            self.assertFalse(self.told_truth(heaps_hold, ((), ()), GREAT, heaps))


class TestBehind(WebCase):
    def test_gathered(self):
        middle = row_of((1, 5, 9, 30))
        outer = ((4, 6), (0, 2), (7,), (8, 11))
        self.assertEqual(self.told_tuple(behind, middle, ((1, 5), (9, 30)), outer), ((0, 2, 4, 6), (7, 8, 11)))
        self.assertEqual(self.told_tuple(behind, middle, ((9,), (1, 5)), outer), ((7,), (0, 2, 4, 6)))
        self.assertEqual(self.told_tuple(behind, middle, ((30,),), outer), ((8, 11),))

    def test_no_places(self):
        self.assertEqual(self.told_tuple(behind, ((), ()), (), ()), ())
        for web in SAMPLES:
            self.assertEqual(self.told_tuple(behind, web, (), own_heaps(web)), ())

    def test_own_heaps_change_nothing(self):
        self.assertEqual(self.told_tuple(behind, GREAT, HEAPS, own_heaps(GREAT)), HEAPS)
        self.assertEqual(self.told_tuple(behind, LITTLE, own_heaps(LITTLE), HEAPS), HEAPS)
        for web in SAMPLES:
            self.assertEqual(self.told_tuple(behind, web, own_heaps(web), own_heaps(web)), own_heaps(web))

    def test_far_names(self):
        middle = row_of((FAR, FARTHEST, 3))
        outer = ((1,), (FARTHEST - 1, FARTHEST), (0, FAR))
        heaps = self.told_tuple(behind, middle, ((3, FARTHEST), (FAR,)), outer)
        self.assertEqual(heaps, ((0, 1, FAR), (FARTHEST - 1, FARTHEST)))

    def test_they_hold_along_two_rows(self):
        chance = random.Random(14)
        for web in SAMPLES + (across(range(5), range(5, 10)), all_tied(range(3, 13))):
            for many in (0, 1, 3, 5, 8):
                row, standing = some_row(web, chance, many)
                further, ended = some_row(standing[-1], chance, many)
                outer = heaps_of_row(web, row)
                inner = heaps_of_row(standing[-1], further)
                heaps = self.told_tuple(behind, standing[-1], inner, outer)
                self.assertTrue(are_holding_heaps(ended[-1], web, heaps), (web, row, further))
                self.assertEqual(heaps, heaps_of_row(web, row + further))
