"""[12]: a web goes a row of steps."""

import itertools
import random

from tests.helper import FARTHEST, RIGHT_ROW, SAMPLES, WebCase
from tests.helper import all_tied, all_webs, lone, ring_of, some_row, wrong_rows
from webdown.errors import NoStep
from webdown.steps import gone_row, stepped, steps_of
from webdown.webs import counts_of


class TestGoneRow(WebCase):
    def test_no_steps(self):
        for web in SAMPLES:
            self.assertEqual(self.told_web(gone_row, web, ()), web)

    def test_one_step(self):
        for web in SAMPLES:
            for step in steps_of(web):
                self.assertEqual(self.told_web(gone_row, web, (step,)), stepped(web, step))

    def test_two_steps(self):
        web = ((0, 2, 9, 10), ((0, 9), (0, 10), (2, 9)))
        for first in steps_of(web):
            for second in steps_of(stepped(web, first)):
                self.assertEqual(self.told_web(gone_row, web, (first, second)), stepped(stepped(web, first), second))

    def test_many_steps(self):
        row = (("draw", 4, 0), ("tie", 1, 2), ("place", 3), ("draw", 1, 4), ("place", 2))
        self.assertEqual(self.told_web(gone_row, ring_of((0, 1, 2, 3, 4)), row), lone((1,)))

    def test_the_row_that_is_spoilt_below(self):
        self.assertEqual(self.told_web(gone_row, *RIGHT_ROW), ((0, 3, 8), ((0, 8),)))

    def test_each_step_meets_the_web_that_stands_then(self):
        web = ((0, 1, 2), ((0, 1), (1, 2)))
        self.refused(NoStep, gone_row, web, (("tie", 0, 2),))
        self.assertEqual(self.told_web(gone_row, web, (("draw", 0, 1), ("tie", 0, 2))), lone((0, 2)))

    def test_down_to_nothing(self):
        leavings = tuple(("place", place) for place in range(10))
        self.assertEqual(self.told_web(gone_row, all_tied(range(10)), leavings), ((), ()))
        drawings = tuple(("draw", FARTHEST, FARTHEST - k) for k in range(1, 10))
        web = all_tied(range(FARTHEST - 9, FARTHEST + 1))
        self.assertEqual(self.told_web(gone_row, web, drawings), lone((FARTHEST,)))
        self.assertEqual(self.told_web(gone_row, web, drawings + (("place", FARTHEST),)), ((), ()))

    def test_rows_by_chance(self):
        chance = random.Random(12)
        for web in SAMPLES:
            for many in (3, 10, 60):
                row, standing = some_row(web, chance, many)
                self.assertEqual(self.told_web(gone_row, web, row), standing[-1])


class TestNoStep(WebCase):
    def test_a_row_that_cannot_be_gone(self):
        for web, row in wrong_rows():
            self.refused(NoStep, gone_row, web, row)


class TestCountsAlongRows(WebCase):
    def look_at(self, web, later):
        before, behind = counts_of(web), counts_of(later)
        self.assertLess(behind[0] + behind[1], before[0] + before[1])
        self.assertTrue(all(now <= then for now, then in zip(behind, before)), (web, later))

    def test_each_step_of_few_webs(self):
        for web in itertools.chain(SAMPLES, all_webs((1, 2, 10, 21, 300))):
            for step in steps_of(web):
                self.look_at(web, stepped(web, step))

    def test_along_rows(self):
        chance = random.Random(9)
        for web in SAMPLES:
            row, standing = some_row(web, chance, 60)
            self.assertEqual(standing[-1], ((), ()))
            for earlier, later in zip(standing, standing[1:]):
                self.look_at(earlier, later)
