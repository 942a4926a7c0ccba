"""[18]: all that comes out of a web of at most five places, of webs that are alike one."""

import itertools

from tests.helper import FAR, FARTHEST, SAMPLES, WebCase
from tests.helper import all_tied, all_webs, beside_each_other, lone, ring_of, row_of, star_of
from tests.helper import are_tied, is_laying, is_right_web, renamed
from webdown.errors import TooGreat
from webdown.listing import listed
from webdown.steps import stepped, steps_of


def least_form(web):
    """The same for webs just where they are alike: the least way to write the ties, of all ways of counting."""
    pairs = tuple(itertools.combinations(range(len(web[0])), 2))
    forms = []
    for order in itertools.permutations(web[0]):
        forms.append(tuple((one, other) for one, other in pairs if are_tied(web, order[one], order[other])))
    return (len(web[0]), min(forms))


class TestListed(WebCase):
    def asked(self, web):
        lines = self.told_tuple(listed, web)
        self.assertEqual(lines[0][0], web)
        for line in lines:
            self.look_at(line, lines)
        self.assertEqual(len({least_form(line[0]) for line in lines}), len(lines))
        named = {}
        for spot, line in enumerate(lines):
            for number, laying in line[1]:
                named.setdefault(number, spot)
        for number in range(1, len(lines)):
            self.assertIn(number, named)
            self.assertLess(named[number], number)
        return lines

    def look_at(self, line, lines):
        web, rows = line
        self.assertTrue(is_right_web(web), web)
        self.assertIs(type(rows), tuple)
        self.assertEqual(len(rows), len(steps_of(web)))
        for step, row in zip(steps_of(web), rows):
            self.assertIs(type(row), tuple)
            number, laying = row
            self.assertIs(type(number), int)
            self.assertIn(number, range(len(lines)))
            self.assertTrue(is_laying(stepped(web, step), lines[number][0], laying), (web, step, row))

    def test_no_places(self):
        self.assertEqual(self.asked(((), ())), ((((), ()), ()),))

    def test_one_place(self):
        self.assertEqual(self.asked(lone((FAR,))), ((((FAR,), ()), ((1, ()),)), (((), ()), ())))

    def test_two_places_tied(self):
        lines = self.asked(row_of((3, 9)))
        self.assertEqual(len(lines), 4)
        self.assertEqual({least_form(line[0]) for line in lines}, {(2, ((0, 1),)), (2, ()), (1, ()), (0, ())})

    def test_lone_places(self):
        for many in range(6):
            self.assertEqual(len(self.asked(lone(range(many)))), many + 1)

    def test_all_tied(self):
        for many, lines in enumerate((1, 2, 4, 8, 19, 53)):
            with self.subTest(many):
                self.assertEqual(len(self.asked(all_tied(range(many)))), lines)
                self.assertEqual(len(self.asked(all_tied(range(FARTHEST - many, FARTHEST)))), lines)

    def test_all_tied_lists_each_web_of_at_most_five_places(self):
        forms = {least_form(line[0]) for line in self.asked(all_tied((0, 3, 5, 8, 13)))}
        for many in range(5):
            self.assertTrue({least_form(web) for web in all_webs(range(many))} <= forms)
        self.assertEqual(sum(many == 5 for many, ties in forms), 34)

    def test_just_what_comes_by_steps(self):
        two_parts = beside_each_other(ring_of((0, 5, 7)), row_of((1, 2)))
        for web in (ring_of((8, 3, 20, 1, 9)), star_of(5, (0, 2, 9, 11)), two_parts):
            come, looked_at = {web}, set()
            while come - looked_at:
                standing = min(come - looked_at)
                looked_at.add(standing)
                come.update(stepped(standing, step) for step in steps_of(standing))
            self.assertEqual({least_form(line[0]) for line in self.asked(web)}, {least_form(each) for each in come})

    def test_few_webs(self):
        for web in SAMPLES:
            if len(web[0]) <= 5:
                self.asked(web)
        for web in all_webs((1, 2, 10, 21)):
            self.asked(web)

    def test_each_web_that_comes_out_of_five(self):
        for web, rows in listed(all_tied(range(5))):
            self.asked(renamed(web, (FAR, 40, 7, FARTHEST, 0)[: len(web[0])]))


class TestTooGreat(WebCase):
    def test_six_places_and_more(self):
        for many in range(6, 11):
            with self.subTest(many):
                self.refused(TooGreat, listed, lone(range(many)))
                self.refused(TooGreat, listed, all_tied(range(many)))
        for web in SAMPLES:
            if len(web[0]) > 5:
                self.refused(TooGreat, listed, web)
