"""[6]: a web, and how it is made."""

import itertools

from tests.helper import FAR, FARTHEST, WebCase, all_tied, all_webs, holds_truth, is_right_web
from webdown.errors import NoWeb, TooGreat
from webdown.webs import web_of


def turned(pair):
    return (pair[1], pair[0])


class TestMade(WebCase):
    def made(self, places, pairs):
        web = self.told(web_of, places, pairs)
        self.assertTrue(is_right_web(web), web)
        self.assertFalse(holds_truth(web), web)
        return web

    def test_no_places(self):
        self.assertEqual(self.made((), ()), ((), ()))

    def test_one_place(self):
        for name in (0, 1, 9, 10, FARTHEST):
            with self.subTest(name):
                self.assertEqual(self.made((name,), ()), ((name,), ()))
                self.assertEqual(self.made((name, name, name), ()), ((name,), ()))

    def test_places_without_ties(self):
        self.assertEqual(self.made((3, 1, 2), ()), ((1, 2, 3), ()))
        self.assertEqual(self.made((10, 9, 2, 10), ()), ((2, 9, 10), ()))

    def test_places_in_any_order(self):
        for places in itertools.permutations((0, 2, 9, 10)):
            with self.subTest(places):
                self.assertEqual(self.made(places, ((9, 10), (0, 2))), ((0, 2, 9, 10), ((0, 2), (9, 10))))

    def test_pairs_in_any_order(self):
        for pairs in itertools.permutations(((0, 9), (0, 10), (2, 9), (9, 10))):
            with self.subTest(pairs):
                web = self.made((0, 2, 9, 10), pairs)
                self.assertEqual(web, ((0, 2, 9, 10), ((0, 9), (0, 10), (2, 9), (9, 10))))

    def test_each_pair_either_way_round(self):
        ties = ((0, 2), (0, 10), (2, 9))
        for turns in itertools.product((False, True), repeat=3):
            pairs = tuple(turned(tie) if turn else tie for tie, turn in zip(ties, turns))
            with self.subTest(pairs):
                self.assertEqual(self.made((0, 2, 9, 10), pairs), ((0, 2, 9, 10), ties))

    def test_the_same_more_than_once(self):
        web = self.made((5, 7, 5, 7, 5), ((7, 5), (5, 7), (5, 7), (7, 5)))
        self.assertEqual(web, ((5, 7), ((5, 7),)))

    def test_every_web_of_four_places(self):
        for web in all_webs((0, 3, 11, 20)):
            places, ties = web
            turned_back = tuple(turned(tie) for tie in reversed(ties))
            self.assertEqual(self.made(places, ties), web)
            self.assertEqual(self.made(places[::-1], turned_back), web)
            self.assertEqual(self.made(places[2:] + places, turned_back + ties), web)

    def test_names_with_holes_and_far(self):
        web = self.made((FARTHEST, 0, FAR, 1000), ((FARTHEST, 0), (FAR, FARTHEST), (1000, FAR)))
        self.assertEqual(web, ((0, 1000, FAR, FARTHEST), ((0, FARTHEST), (1000, FAR), (FAR, FARTHEST))))

    def test_far_names_that_differ_by_one(self):
        web = self.made((FARTHEST, FARTHEST - 1), ((FARTHEST, FARTHEST - 1),))
        self.assertEqual(web, ((FARTHEST - 1, FARTHEST), ((FARTHEST - 1, FARTHEST),)))

    def test_ten_places(self):
        for places in (tuple(range(10)), tuple(range(5, 105, 10)), tuple(range(FARTHEST - 9, FARTHEST + 1))):
            with self.subTest(places):
                self.assertEqual(self.made(places, ()), (places, ()))
                self.assertEqual(self.made(places[::-1], ()), (places, ()))

    def test_ten_places_more_than_once(self):
        places = tuple(range(10))
        self.assertEqual(self.made(places + places, ()), (places, ()))
        self.assertEqual(self.made(places * 3, ((9, 0),)), (places, ((0, 9),)))
        self.assertEqual(self.made(places + (4,), ()), (places, ()))

    def test_all_of_them_tied(self):
        for many in range(11):
            web = all_tied(range(0, 7 * many, 7))
            both_ways = web[1][::-1] + tuple(turned(tie) for tie in web[1])
            with self.subTest(many):
                self.assertEqual(self.made(web[0][::-1] * 2, both_ways), web)
                self.assertEqual(len(web[1]), many * (many - 1) // 2)


class TestNoWeb(WebCase):
    def test_one_number_twice(self):
        for places, pair in (((0, 1), (0, 0)), ((0, 1), (1, 1)), ((0, 1), (5, 5)), ((), (0, 0)), ((FAR,), (FAR, FAR))):
            with self.subTest(places=places, pair=pair):
                self.refused(NoWeb, web_of, places, (pair,))

    def test_none_of_the_places(self):
        places = (2, 4, 6)
        for stranger in (0, 1, 3, 5, 7, 8, 1000, FAR, FARTHEST):
            for place in places:
                with self.subTest(stranger=stranger, place=place):
                    self.refused(NoWeb, web_of, places, ((stranger, place),))
                    self.refused(NoWeb, web_of, places, ((place, stranger),))

    def test_both_none_of_the_places(self):
        self.refused(NoWeb, web_of, (2, 4, 6), ((3, 5),))
        self.refused(NoWeb, web_of, (), ((0, 1),))

    def test_far_names_are_told_apart(self):
        self.refused(NoWeb, web_of, (0, FARTHEST), ((0, FARTHEST - 1),))
        self.refused(NoWeb, web_of, (0, FARTHEST), ((FARTHEST - 1, 0),))

    def test_a_number_is_no_place_for_its_number_in_the_row(self):
        self.refused(NoWeb, web_of, (5, 6, 7), ((0, 1),))

    def test_wherever_it_stands_among_right_ones(self):
        right = ((0, 1), (2, 1), (0, 2))
        for wrong in ((1, 1), (3, 0), (0, 3), (FAR, 2)):
            for spot in range(4):
                pairs = right[:spot] + (wrong,) + right[spot:]
                with self.subTest(pairs):
                    self.refused(NoWeb, web_of, (0, 1, 2), pairs)

    def test_truths_stand_for_no_number(self):
        self.refused(NoWeb, web_of, (0, 1), ((0, True),))
        self.refused(NoWeb, web_of, (0, 1), ((False, 1),))


class TestTooGreat(WebCase):
    def test_eleven_unlike_places(self):
        eleven = tuple(range(11))
        for places in (eleven, eleven[::-1], eleven[:10] + (FARTHEST,), eleven * 2):
            with self.subTest(places):
                self.refused(TooGreat, web_of, places, ())

    def test_many_more(self):
        for many in (12, 20, 100):
            with self.subTest(many):
                self.refused(TooGreat, web_of, tuple(range(many)), ())

    def test_with_right_pairs(self):
        self.refused(TooGreat, web_of, tuple(range(11)), ((0, 1), (10, 0), (0, 10)))
        self.refused(TooGreat, web_of, *all_tied(range(11)))

    def test_no_web_goes_ahead(self):
        places = tuple(range(11))
        for wrong in ((0, 0), (10, 10), (11, 11), (0, 11), (11, 0), (FAR, 10), (10, FAR), (12, 13)):
            with self.subTest(wrong):
                self.refused(NoWeb, web_of, places, (wrong,))
                self.refused(NoWeb, web_of, places, ((0, 1), (10, 9), wrong))
                self.refused(NoWeb, web_of, places, (wrong, (0, 1), (10, 9)))
