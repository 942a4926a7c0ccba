"""[15], [16]: the heaps of a row, and the row of heaps."""

import itertools
import random

from tests.helper import FAR, FARTHEST, RIGHT_ROW, SAMPLES, WebCase
from tests.helper import all_tied, all_webs, beside_each_other, lone, made_web, ring_of, row_of
from tests.helper import are_holding_heaps, is_laying, some_row, wrong_rows
from webdown.errors import NoStep
from webdown.heaps import heaps_of_row, row_of_heaps
from webdown.steps import gone_row, steps_of


class TestHeapsOfRow(WebCase):
    def asked(self, web, row):
        heaps = self.told_tuple(heaps_of_row, web, row)
        self.assertTrue(are_holding_heaps(gone_row(web, row), web, heaps), (web, row, heaps))
        return heaps

    def test_no_steps(self):
        for web in SAMPLES:
            self.assertEqual(self.asked(web, ()), tuple((place,) for place in web[0]))

    def test_nothing_is_drawn(self):
        web = all_tied((0, 3, 5, 8))
        self.assertEqual(self.asked(web, (("tie", 0, 3), ("place", 5))), ((0,), (3,), (8,)))

    def test_drawn_into_a_place(self):
        web = ring_of((0, 1, 2, 3, 4))
        self.assertEqual(self.asked(web, (("draw", 4, 0),)), ((1,), (2,), (3,), (0, 4)))
        self.assertEqual(self.asked(web, (("draw", 0, 4),)), ((0, 4), (1,), (2,), (3,)))
        self.assertEqual(self.asked(web, (("draw", 0, 4), ("draw", 0, 3))), ((0, 3, 4), (1,), (2,)))

    def test_into_places_that_are_drawn_away_later(self):
        web = row_of((4, 1, 30, 2, 9))
        row = (("draw", 1, 4), ("draw", 30, 1), ("draw", 9, 2), ("draw", 9, 30))
        self.assertEqual(self.asked(web, row[:1]), ((1, 4), (2,), (9,), (30,)))
        self.assertEqual(self.asked(web, row[:2]), ((2,), (9,), (1, 4, 30)))
        self.assertEqual(self.asked(web, row[:3]), ((2, 9), (1, 4, 30)))
        self.assertEqual(self.asked(web, row), ((1, 2, 4, 9, 30),))

    def test_what_was_drawn_into_a_place_is_left_out_with_it(self):
        web = row_of((4, 1, 30, 2, 9))
        self.assertEqual(self.asked(web, (("draw", 1, 4), ("place", 1))), ((2,), (9,), (30,)))
        self.assertEqual(self.asked(web, (("draw", 1, 4), ("draw", 30, 1), ("place", 30))), ((2,), (9,)))
        self.assertEqual(self.asked(web, tuple(("place", place) for place in web[0])), ())

    def test_the_row_that_is_spoilt_below(self):
        self.assertEqual(self.asked(*RIGHT_ROW), ((0,), (3,), (5, 8)))

    def test_all_into_one(self):
        places = tuple(range(FARTHEST - 9, FARTHEST + 1))
        web = row_of(places)
        row = tuple(("draw", behind, ahead) for ahead, behind in zip(places, places[1:]))
        self.assertEqual(self.asked(web, row), (places,))

    def test_no_places(self):
        self.assertEqual(self.asked(((), ()), ()), ())

    def test_rows_by_chance(self):
        chance = random.Random(15)
        for web in SAMPLES:
            for many in (2, 4, 6, 9, 60):
                for time in range(5):
                    row, standing = some_row(web, chance, many)
                    self.asked(web, row)

    def test_each_two_steps_of_every_web_of_four_places(self):
        for web in all_webs((1, 2, 10, 21)):
            for first in steps_of(web):
                for second in steps_of(gone_row(web, (first,))):
                    self.asked(web, (first, second))


class TestNoStep(WebCase):
    def test_a_row_that_cannot_be_gone(self):
        for web, row in wrong_rows():
            self.refused(NoStep, heaps_of_row, web, row)


class TestRowOfHeaps(WebCase):
    def asked(self, little, great, heaps):
        answer = self.told_tuple(row_of_heaps, little, great, heaps)
        row, laying = answer
        self.assertIs(type(row), tuple)
        self.assertIs(type(laying), tuple)
        self.assertTrue(is_laying(little, gone_row(great, row), laying), (little, great, heaps, answer))
        self.assertTrue(all(place in heap for place, heap in zip(laying, heaps)), (laying, heaps))
        return answer

    def test_spare_places_spare_ties_and_drawings(self):
        great = beside_each_other(all_tied(range(8)), row_of((8, 9)))
        for little in (row_of((5, 6, 40)), ring_of((5, 6, 40)), lone((5, 6, 40))):
            for heaps in (((0, 1, 2), (3, 4), (7,)), ((7,), (0, 5), (1, 2, 3, 4, 6)), ((0,), (1,), (2,))):
                self.asked(little, great, heaps)

    def test_a_heap_whose_places_hang_in_no_rising_order(self):
        great = row_of((0, 9, 1, 8, 2, 7, 3, 6, 4, 5))
        for cut in range(1, 10):
            order = (0, 9, 1, 8, 2, 7, 3, 6, 4, 5)
            heaps = (tuple(sorted(order[:cut])), tuple(sorted(order[cut:])))
            self.asked(row_of((0, 1)), great, heaps)
            self.asked(lone((0, 1)), great, heaps)
        self.asked(lone((3,)), great, (tuple(range(10)),))

    def test_the_least_place_is_no_middle(self):
        great = made_web(range(7), ((0, 6), (1, 6), (2, 5), (3, 5), (4, 5), (5, 6)))
        self.asked(lone((9,)), great, (tuple(range(7)),))
        self.asked(row_of((2, 9)), great, ((2, 3, 4, 5), (0, 1, 6)))

    def test_the_little_web_is_the_great_one(self):
        for web in SAMPLES:
            row, laying = self.asked(web, web, tuple((place,) for place in web[0]))
            self.assertEqual((row, laying), ((), web[0]))

    def test_the_little_web_has_no_places(self):
        for web in SAMPLES:
            row, laying = self.asked(((), ()), web, ())
            self.assertEqual(laying, ())
            self.assertEqual(gone_row(web, row), ((), ()))

    def test_a_little_web_laid_otherwise(self):
        for heaps in itertools.permutations(((0,), (3,), (5,), (8,))):
            self.asked(row_of((1, 2, 4, 7)), all_tied((0, 3, 5, 8, 13)), heaps)

    def test_far_names(self):
        great = row_of((FARTHEST, 0, FAR, FARTHEST - 1, 3))
        self.asked(row_of((1, FAR + 5)), great, ((FAR, FARTHEST - 1), (0, FARTHEST)))

    def test_heaps_of_rows_by_chance(self):
        chance = random.Random(16)
        for web in SAMPLES:
            for many in (0, 1, 3, 6, 9):
                for time in range(5):
                    row, standing = some_row(web, chance, many)
                    self.asked(standing[-1], web, heaps_of_row(web, row))

    def test_every_three_heaps_of_few_webs(self):
        places = (1, 2, 10, 21)
        heaps = [chosen for many in (1, 2) for chosen in itertools.combinations(places, many)]
        for great in all_webs(places):
            for some in itertools.permutations(heaps, 3):
                for little in (lone((0, 1, 2)), row_of((1, 0, 2))):
                    if len(set(sum(some, ()))) == len(sum(some, ())) and are_holding_heaps(little, great, some):
                        self.asked(little, great, some)
