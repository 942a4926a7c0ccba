"""[2], [6]: what is a whole number, what rises, what is a right web."""

import itertools

from tests.helper import FARTHEST, STRANGE, WebCase, all_tied, all_webs, is_right_web
from webdown.shapes import are_some_of, is_order, is_rising, is_web, is_whole, rising, together


class TestWhole(WebCase):
    def test_whole_numbers(self):
        for value in (0, 1, 10, -1, FARTHEST):
            with self.subTest(value):
                self.assertIs(self.told(is_whole, value), True)

    def test_truths_and_others_are_none(self):
        for value in (True, False, None, "", "1", (), (1,)):
            with self.subTest(value):
                self.assertIs(self.told(is_whole, value), False)


class TestRising(WebCase):
    def test_made_rising(self):
        self.assertEqual(self.told(rising, ()), ())
        self.assertEqual(self.told(rising, (10, 9, 2, 10, 9)), (2, 9, 10))
        self.assertEqual(self.told(rising, [(2, 3), (1, 9), (1, 10), (2, 3)]), ((1, 9), (1, 10), (2, 3)))

    def test_gathered(self):
        self.assertEqual(together(()), [])
        self.assertEqual(together(((3, 1), (), (1,), (2, 9))), [3, 1, 1, 2, 9])

    def test_looked_at(self):
        for value in ((), (5,), (1, 2), (0, 9, 10), ((1, 9), (1, 10), (2, 3)), ((), (0,), (0, 1))):
            with self.subTest(value):
                self.assertIs(self.told(is_rising, value), True)
        for value in ((1, 1), (2, 1), (0, 1, 1), (0, 2, 1), (1, 0, 2), ((1, 2), (1, 2))):
            with self.subTest(value):
                self.assertIs(self.told(is_rising, value), False)


class TestOrder(WebCase):
    def test_each_place_once(self):
        places = (0, 1, 9, FARTHEST)
        for order in itertools.permutations(places):
            self.assertIs(self.told(is_order, places, order), True)
            self.assertIs(self.told(is_order, places, order[1:]), False)
            self.assertIs(self.told(is_order, places, order + order[:1]), False)
            self.assertIs(self.told(is_order, places, order[1:] + order[1:2]), False)
        self.assertIs(self.told(is_order, (), ()), True)

    def test_nothing_else(self):
        for value in STRANGE + ((0, 1, 2), (0, 2), (False, 1), (0, True)):
            with self.subTest(value):
                self.assertIs(self.told(is_order, (0, 1), value), False)


class TestSomeOf(WebCase):
    def test_rising_tuples_of_places(self):
        places = (0, 1, 9, FARTHEST)
        for many in range(5):
            for some in itertools.permutations(places, many):
                self.assertIs(self.told(are_some_of, places, some), list(some) == sorted(some))

    def test_nothing_else(self):
        for value in STRANGE + ((0, 2), (1, 1), (False, 1), (0, True), (0, 1, 2)):
            with self.subTest(value):
                self.assertIs(self.told(are_some_of, (0, 1), value), False)


class TestWeb(WebCase):
    def test_right_ones(self):
        for web in all_webs((0, 2, 9, FARTHEST)):
            self.assertTrue(is_right_web(web))
            self.assertIs(self.told(is_web, web), True)
        for web in (((), ()), ((0,), ()), all_tied(range(10))):
            with self.subTest(web):
                self.assertIs(self.told(is_web, web), True)

    def test_wrong_whole(self):
        for value in (None, 0, "", (), ((),), ((), (), ()), ("", ""), (None, None), (0, 0)):
            with self.subTest(value):
                self.assertIs(self.told(is_web, value), False)

    def test_wrong_places(self):
        strange = ((0, "1"), (0, None), (0, (1,)), (False, 1), (0, True))
        for places in ((1, 0), (0, 0), (-1, 0), tuple(range(11))) + strange:
            with self.subTest(places):
                self.assertIs(self.told(is_web, (places, ())), False)
        self.assertIs(self.told(is_web, ("01", ())), False)

    def test_wrong_ties(self):
        for ties in (
            ((1, 0),),
            ((1, 1),),
            ((0, 3),),
            ((-1, 0),),
            ((0, 1), (0, 1)),
            ((1, 2), (0, 1)),
            ((0, 1, 2),),
            ((0,),),
            ((),),
            (0, 1),
            ("01",),
            (None,),
            ((0, "1"),),
            ((0, None),),
            ((0, (1,)),),
            ((0, True),),
            ((False, 1),),
            ((0, 1), None),
        ):
            with self.subTest(ties):
                self.assertIs(self.told(is_web, ((0, 1, 2), ties)), False)
        self.assertIs(self.told(is_web, ((0, 1), "")), False)
        self.assertIs(self.told(is_web, ((), ((0, 1),))), False)
