"""[10], [11]: a web's steps, and the web behind one."""

import itertools

from tests.helper import FAR, FARTHEST, SAMPLES, WebCase
from tests.helper import all_tied, all_webs, are_tied, lone, ring_of, row_of, star_of
from webdown.errors import NoStep
from webdown.steps import stepped, steps_of


def steps_by_the_words(web):
    places, ties = web
    told = []
    for tie in ties:
        told.append(("tie",) + tie)
    for place in places:
        told.append(("place", place))
    for tie in ties:
        told.append(("draw",) + tie)
    return tuple(told)


def is_tied_behind(web, step, one, other):
    """Whether two places that are there behind the step are tied then, by the words of [10]."""
    if step[0] == "tie":
        return are_tied(web, one, other) and {one, other} != set(step[1:])
    if step[0] == "draw" and step[1] in (one, other):
        third = other if step[1] == one else one
        return are_tied(web, step[1], third) or are_tied(web, step[2], third)
    return are_tied(web, one, other)


def web_behind(web, step):
    gone = {"tie": (), "place": step[1:], "draw": step[2:]}[step[0]]
    places = tuple(place for place in web[0] if place not in gone)
    ties = [pair for pair in itertools.combinations(places, 2) if is_tied_behind(web, step, *pair)]
    return (places, tuple(ties))


def few_webs():
    names = (1, 2, 10, 21, 300)
    for many in range(5):
        yield from all_webs(names[:many])
    yield from SAMPLES


class TestStepsOf(WebCase):
    def test_no_places(self):
        self.assertEqual(self.told_tuple(steps_of, ((), ())), ())

    def test_no_ties(self):
        self.assertEqual(self.told_tuple(steps_of, lone((4,))), (("place", 4),))
        self.assertEqual(self.told_tuple(steps_of, lone((2, 9, 10))), (("place", 2), ("place", 9), ("place", 10)))

    def test_one_tie(self):
        self.assertEqual(
            self.told_tuple(steps_of, row_of((3, 20))), (("tie", 3, 20), ("place", 3), ("place", 20), ("draw", 3, 20))
        )

    def test_ties_then_places_then_drawings(self):
        web = ((0, 2, 9, 10), ((0, 9), (0, 10), (2, 9)))
        self.assertEqual(
            self.told_tuple(steps_of, web),
            (
                ("tie", 0, 9),
                ("tie", 0, 10),
                ("tie", 2, 9),
                ("place", 0),
                ("place", 2),
                ("place", 9),
                ("place", 10),
                ("draw", 0, 9),
                ("draw", 0, 10),
                ("draw", 2, 9),
            ),
        )

    def test_far_names(self):
        self.assertEqual(
            self.told_tuple(steps_of, row_of((FARTHEST, FAR))),
            (("tie", FAR, FARTHEST), ("place", FAR), ("place", FARTHEST), ("draw", FAR, FARTHEST)),
        )

    def test_how_many(self):
        for many in range(11):
            self.assertEqual(len(self.told_tuple(steps_of, all_tied(range(many)))), many * many)
        self.assertEqual(len(self.told_tuple(steps_of, ring_of(tuple(range(10))))), 30)

    def test_few_webs(self):
        for web in few_webs():
            self.assertEqual(self.told_tuple(steps_of, web), steps_by_the_words(web))


class TestStepped(WebCase):
    def test_a_tie_left_out(self):
        web = ((0, 2, 9, 10), ((0, 9), (0, 10), (2, 9)))
        self.assertEqual(self.told_web(stepped, web, ("tie", 0, 10)), ((0, 2, 9, 10), ((0, 9), (2, 9))))
        self.assertEqual(self.told_web(stepped, row_of((3, 20)), ("tie", 3, 20)), ((3, 20), ()))

    def test_a_place_left_out(self):
        web = ((0, 2, 9, 10), ((0, 9), (0, 10), (2, 9)))
        self.assertEqual(self.told_web(stepped, web, ("place", 0)), ((2, 9, 10), ((2, 9),)))
        self.assertEqual(self.told_web(stepped, web, ("place", 10)), ((0, 2, 9), ((0, 9), (2, 9))))
        self.assertEqual(self.told_web(stepped, lone((5,)), ("place", 5)), ((), ()))

    def test_a_tie_drawn(self):
        web = ((0, 2, 9, 10), ((0, 9), (0, 10), (2, 9)))
        self.assertEqual(self.told_web(stepped, web, ("draw", 0, 9)), ((0, 2, 10), ((0, 2), (0, 10))))
        self.assertEqual(self.told_web(stepped, web, ("draw", 9, 0)), ((2, 9, 10), ((2, 9), (9, 10))))
        self.assertEqual(self.told_web(stepped, row_of((3, 20)), ("draw", 3, 20)), ((3,), ()))
        self.assertEqual(self.told_web(stepped, row_of((3, 20)), ("draw", 20, 3)), ((20,), ()))

    def test_both_tied_with_a_third(self):
        self.assertEqual(self.told_web(stepped, ring_of((1, 2, 3)), ("draw", 1, 3)), ((1, 2), ((1, 2),)))
        self.assertEqual(self.told_web(stepped, ring_of((1, 2, 3)), ("draw", 3, 1)), ((2, 3), ((2, 3),)))
        for step in (("draw", 4, 7), ("draw", 7, 4)):
            left = [place for place in range(10) if place != step[2]]
            self.assertEqual(self.told_web(stepped, all_tied(range(10)), step), all_tied(left))

    def test_a_ring_grows_less_by_drawing(self):
        self.assertEqual(self.told_web(stepped, ring_of((0, 1, 2, 3, 4)), ("draw", 4, 0)), ring_of((1, 2, 3, 4)))
        self.assertEqual(self.told_web(stepped, ring_of((0, 1, 2, 3, 4)), ("draw", 0, 4)), ring_of((0, 1, 2, 3)))

    def test_the_middle_of_a_star_drawn_away(self):
        web = star_of(5, (0, 2, 9, FAR))
        self.assertEqual(self.told_web(stepped, web, ("draw", 9, 5)), star_of(9, (0, 2, FAR)))
        self.assertEqual(self.told_web(stepped, web, ("draw", FAR, 5)), star_of(FAR, (0, 2, 9)))
        self.assertEqual(self.told_web(stepped, web, ("draw", 5, 9)), star_of(5, (0, 2, FAR)))

    def test_far_names(self):
        web = ((0, FAR, FARTHEST - 1, FARTHEST), ((0, FARTHEST), (FAR, FARTHEST - 1), (FARTHEST - 1, FARTHEST)))
        drawn = ((0, FAR, FARTHEST), ((0, FARTHEST), (FAR, FARTHEST)))
        self.assertEqual(self.told_web(stepped, web, ("draw", FARTHEST, FARTHEST - 1)), drawn)

    def test_each_step_of_few_webs(self):
        for web in few_webs():
            for step in steps_by_the_words(web):
                self.assertEqual(self.told_web(stepped, web, step), web_behind(web, step))

    def test_each_drawing_the_other_way_round(self):
        for web in few_webs():
            for one, other in web[1]:
                step = ("draw", other, one)
                self.assertEqual(self.told_web(stepped, web, step), web_behind(web, step))


class TestNoStep(WebCase):
    def test_a_tie_turned_round(self):
        for web in SAMPLES:
            for one, other in web[1]:
                self.refused(NoStep, stepped, web, ("tie", other, one))

    def test_two_places_not_tied(self):
        for web in SAMPLES:
            for one, other in itertools.combinations(web[0], 2):
                if not are_tied(web, one, other):
                    for step in (("tie", one, other), ("tie", other, one), ("draw", one, other), ("draw", other, one)):
                        self.refused(NoStep, stepped, web, step)

    def test_a_place_and_itself(self):
        for web in SAMPLES:
            for place in web[0]:
                self.refused(NoStep, stepped, web, ("tie", place, place))
                self.refused(NoStep, stepped, web, ("draw", place, place))

    def test_a_number_that_is_no_place(self):
        for web in SAMPLES:
            for stranger in (14, 1000, FAR + 2, FARTHEST - 2):
                self.refused(NoStep, stepped, web, ("place", stranger))
                self.refused(NoStep, stepped, web, ("tie", stranger, stranger))
                self.refused(NoStep, stepped, web, ("draw", stranger, stranger))
                for place in web[0]:
                    for pair in ((place, stranger), (stranger, place)):
                        self.refused(NoStep, stepped, web, ("tie",) + pair)
                        self.refused(NoStep, stepped, web, ("draw",) + pair)

    def test_a_number_in_a_hole(self):
        web = row_of((2, 4, 6))
        for stranger in (0, 1, 3, 5, 7):
            self.refused(NoStep, stepped, web, ("place", stranger))
            self.refused(NoStep, stepped, web, ("tie", min(4, stranger), max(4, stranger)))
            self.refused(NoStep, stepped, web, ("draw", 4, stranger))
            self.refused(NoStep, stepped, web, ("draw", stranger, 4))

    def test_web_without_places(self):
        for step in (("place", 0), ("tie", 0, 1), ("draw", 0, 1)):
            self.refused(NoStep, stepped, ((), ()), step)

    def test_truths_stand_for_no_number(self):
        web = row_of((0, 1, 2))
        for step in (
            ("place", True),
            ("place", False),
            ("tie", False, 1),
            ("tie", 0, True),
            ("tie", True, 2),
            ("draw", 0, True),
            ("draw", True, 0),
            ("draw", False, True),
        ):
            with self.subTest(step):
                self.refused(NoStep, stepped, web, step)
