"""[7]: the places beside a place."""

from tests.helper import FAR, FARTHEST, WebCase, all_tied, all_webs, are_tied, holds_truth, rises
from webdown.errors import NoPlace
from webdown.webs import beside


class TestBeside(WebCase):
    def asked(self, web, place):
        answer = self.told(beside, web, place)
        self.assertIs(type(answer), tuple)
        self.assertTrue(rises(answer), answer)
        self.assertFalse(holds_truth(answer), answer)
        return answer

    def test_tied_with_none(self):
        self.assertEqual(self.asked(((7,), ()), 7), ())
        self.assertEqual(self.asked(((0, 1, 2), ((0, 2),)), 1), ())

    def test_few_ties(self):
        web = ((0, 2, 9, 10, 30), ((0, 9), (2, 9), (9, 10)))
        self.assertEqual([self.asked(web, place) for place in web[0]], [(9,), (9,), (0, 2, 10), (9,), ()])

    def test_all_tied(self):
        web = all_tied(range(3, 33, 3))
        for place in web[0]:
            with self.subTest(place):
                self.assertEqual(self.asked(web, place), tuple(other for other in web[0] if other != place))

    def test_far_names(self):
        web = ((0, FAR, FARTHEST - 1, FARTHEST), ((0, FARTHEST), (FAR, FARTHEST), (FARTHEST - 1, FARTHEST)))
        self.assertEqual(self.asked(web, FARTHEST), (0, FAR, FARTHEST - 1))
        self.assertEqual(self.asked(web, FARTHEST - 1), (FARTHEST,))

    def test_every_web_of_four_places(self):
        for web in all_webs((1, 2, 10, 21)):
            for place in web[0]:
                expected = tuple(other for other in web[0] if other != place and are_tied(web, place, other))
                self.assertEqual(self.asked(web, place), expected)


class TestNoPlace(WebCase):
    def test_no_places_of_the_web(self):
        for web in (((2, 5, 9), ((2, 9),)), ((2, 5, 9), ()), all_tied((2, 5, 9))):
            for stranger in (0, 1, 3, 4, 6, 8, 10, 1000, FAR, FARTHEST):
                with self.subTest(web=web, stranger=stranger):
                    self.refused(NoPlace, beside, web, stranger)

    def test_far_names_are_told_apart(self):
        self.refused(NoPlace, beside, ((0, FARTHEST), ((0, FARTHEST),)), FARTHEST - 1)

    def test_web_without_places(self):
        for stranger in (0, 1, FAR):
            with self.subTest(stranger):
                self.refused(NoPlace, beside, ((), ()), stranger)

    def test_truths_stand_for_no_number(self):
        for truth in (True, False):
            with self.subTest(truth):
                self.refused(NoPlace, beside, ((0, 1), ((0, 1),)), truth)
