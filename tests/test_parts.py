"""[8]: the parts of a web."""

import itertools

from tests.helper import FAR, FARTHEST, WebCase, all_tied, all_webs, hangs_together, holds_truth, rises
from webdown.webs import parts_of


def parts_by_the_words(web):
    hanging = []
    for many in range(len(web[0]) + 1):
        hanging.extend(chosen for chosen in itertools.combinations(web[0], many) if hangs_together(web, chosen))
    greatest = [one for one in hanging if not any(set(one) < set(other) for other in hanging)]
    return tuple(sorted(greatest))


class TestParts(WebCase):
    def asked(self, web):
        parts = self.told(parts_of, web)
        self.assertIs(type(parts), tuple)
        self.assertTrue(rises(parts), parts)
        self.assertTrue(all(type(part) is tuple and rises(part) for part in parts), parts)
        self.assertFalse(holds_truth(parts), parts)
        self.assertEqual(tuple(sorted(sum(parts, ()))), web[0])
        return parts

    def test_no_places(self):
        self.assertEqual(self.asked(((), ())), ())

    def test_places_without_ties(self):
        self.assertEqual(self.asked(((4,), ())), ((4,),))
        self.assertEqual(self.asked(((2, 9, 10, FAR), ())), ((2,), (9,), (10,), (FAR,)))
        self.assertEqual(self.asked((tuple(range(10)), ())), tuple((place,) for place in range(10)))

    def test_parts_that_lie_between_one_another(self):
        web = (tuple(range(10)), ((0, 6), (1, 4), (2, 9), (3, 6), (4, 7), (5, 9)))
        self.assertEqual(self.asked(web), ((0, 3, 6), (1, 4, 7), (2, 5, 9), (8,)))

    def test_one_part_of_ten_places(self):
        places = tuple(range(0, 100, 10))
        row = tuple((place, place + 10) for place in places[:-1])
        star = tuple((0, place) for place in places[1:])
        zigzag = ((0, 90), (10, 80), (10, 90), (20, 70), (20, 80), (30, 60), (30, 70), (40, 50), (40, 60))
        for ties in (row, star, zigzag, all_tied(places)[1]):
            with self.subTest(ties):
                self.assertEqual(self.asked((places, ties)), (places,))

    def test_a_row_with_a_tie_left_out(self):
        places = tuple(range(10))
        for cut in range(9):
            ties = tuple((place, place + 1) for place in range(9) if place != cut)
            with self.subTest(cut):
                self.assertEqual(self.asked((places, ties)), (places[: cut + 1], places[cut + 1 :]))

    def test_far_names(self):
        web = ((0, FAR, FARTHEST - 1, FARTHEST), ((0, FARTHEST), (FAR, FARTHEST - 1)))
        self.assertEqual(self.asked(web), ((0, FARTHEST), (FAR, FARTHEST - 1)))

    def test_every_web_of_at_most_five_places(self):
        names = (1, 2, 10, 21, 300)
        for many in range(6):
            for web in all_webs(names[:many]):
                self.assertEqual(self.asked(web), parts_by_the_words(web))
