"""[19], [5]: whether a little web comes out of a great one, with heaps."""

import itertools
import random

from tests.helper import FAR, FAR_NAMES, FARTHEST, SAMPLES, WebCase
from tests.helper import across, all_tied, all_webs, beside_each_other, lone, made_web, prism, ring_of, row_of, star_of
from tests.helper import are_holding_heaps, are_tied, hangs_together, holds_truth, is_laying, renamed, some_row
from webdown.comes import comes_out
from webdown.heaps import behind, row_of_heaps
from webdown.layings import alike, marks_of
from webdown.listing import listed
from webdown.steps import gone_row, stepped, steps_of

# The ring of five and the star of five, tied one to one.
PETERSEN = made_web(
    range(10), ring_of((0, 1, 2, 3, 4))[1] + ring_of((5, 7, 9, 6, 8))[1] + tuple((k, k + 5) for k in range(5))
)


def unlike_webs(most):
    """One of each sort of webs with at most so many places, five at most."""
    return [web for web, rows in listed(all_tied(range(5))) if len(web[0]) <= most]


def joined_heaps(great, many):
    """For each way of dealing places to so many heaps that hang together: which two heaps are tied, by number."""
    hanging = {}
    for size in range(len(great[0]) + 1):
        for chosen in itertools.combinations(great[0], size):
            hanging[chosen] = hangs_together(great, chosen)
    pairs = tuple(itertools.combinations(range(many), 2))
    told = set()
    for dealt in itertools.product(range(many + 1), repeat=len(great[0])):
        heaps = [tuple(place for place, heap in zip(great[0], dealt) if heap == k) for k in range(many)]
        if all(hanging[heap] for heap in heaps):
            joined = [any(are_tied(great, a, b) for a in heaps[k] for b in heaps[m]) for k, m in pairs]
            told.add(frozenset(pair for pair, tied in zip(pairs, joined) if tied))
    return told


def by_number(web):
    return {(web[0].index(a), web[0].index(b)) for a, b in web[1]}


def built_great_web(little, chance):
    """Heaps that hang, a tie for each tie of the little web, spare places and ties, all to ten places."""
    names = chance.sample(range(30), chance.randint(len(little[0]), 10))
    heaps = {place: [names[k]] for k, place in enumerate(little[0])}
    ties, spare = set(), []
    for name in names[len(little[0]) :]:
        if little[0] and chance.random() < 0.7:
            heap = heaps[chance.choice(little[0])]
            ties.add((chance.choice(heap), name))
            heap.append(name)
        else:
            spare.append(name)
    for a, b in little[1]:
        ties.add((chance.choice(heaps[a]), chance.choice(heaps[b])))
    pairs = list(itertools.combinations(names, 2))
    ties.update(chance.sample(pairs, min(len(pairs), chance.randint(0, 5))))
    return made_web(names, ties)


class ComesCase(WebCase):
    def asked(self, little, great):
        heaps = self.told(comes_out, little, great)
        if heaps is None:
            return False
        self.assertFalse(holds_truth(heaps), heaps)
        self.assertTrue(are_holding_heaps(little, great, heaps), (little, great, heaps))
        return True

    def comes(self, little, great):
        self.assertTrue(self.asked(little, great), (little, great))

    def never(self, little, great):
        self.assertFalse(self.asked(little, great), (little, great))


class TestFewPlaces(ComesCase):
    def test_by_all_ways_of_dealing_places(self):
        littles = unlike_webs(4)
        for great in unlike_webs(5):
            dealt = [joined_heaps(great, many) for many in range(5)]
            for little in littles:
                expected = any(by_number(little) <= joined for joined in dealt[len(little[0])])
                self.assertEqual(self.asked(renamed(little, (3, 9, 20, FAR)), great), expected, (little, great))

    def test_just_what_is_listed(self):
        for great in unlike_webs(5):
            lines = listed(great)
            for little in unlike_webs(5):
                expected = any(alike(little, line[0]) is not None for line in lines)
                self.assertEqual(self.asked(little, great), expected, (little, great))

    def test_under_whatever_names(self):
        for great in all_webs((2, 5, FAR, FARTHEST)):
            for little in unlike_webs(3):
                plain = renamed(great, (0, 1, 2, 3))
                self.assertEqual(self.asked(little, great), self.asked(little, plain))


class TestOrdinary(ComesCase):
    def test_no_places_out_of_each_web(self):
        for web in SAMPLES:
            self.assertEqual(self.told(comes_out, ((), ()), web), ())

    def test_each_web_out_of_itself(self):
        for web in SAMPLES:
            self.comes(web, web)

    def test_fewer_places(self):
        for web in SAMPLES:
            if web[0]:
                self.never(web, stepped(web, ("place", web[0][0])))
        for many in range(10):
            self.never(lone(range(many + 1)), all_tied(range(many)))
        self.never(lone((0,)), ((), ()))

    def test_fewer_ties(self):
        for web in SAMPLES:
            for a, b in web[1]:
                self.never(web, stepped(web, ("tie", a, b)))

    def test_lone_places_out_of_whatever(self):
        for web in SAMPLES:
            for many in range(len(web[0]) + 1):
                self.comes(lone(range(many)), web)

    def test_rings(self):
        for great in range(3, 11):
            for little in range(3, 11):
                answer = self.asked(ring_of(tuple(range(little))), ring_of(tuple(range(0, 7 * great, 7))))
                self.assertEqual(answer, little <= great)

    def test_all_tied(self):
        for many in range(11):
            for little in (all_tied(range(many)), ring_of(tuple(range(max(3, many)))), row_of(tuple(range(many)))):
                self.assertEqual(self.asked(little, all_tied(range(5, 15))), True)
                self.assertEqual(self.asked(little, all_tied(range(5, 13))), len(little[0]) <= 8)

    def test_known_webs(self):
        self.comes(all_tied(range(5)), PETERSEN)
        self.comes(across((0, 1, 2), (3, 4, 5)), PETERSEN)
        self.comes(ring_of(tuple(range(9))), PETERSEN)
        self.never(ring_of(tuple(range(10))), PETERSEN)
        self.never(all_tied(range(6)), PETERSEN)
        self.comes(all_tied(range(4)), across((0, 1, 2), (3, 4, 5)))
        self.never(all_tied(range(5)), across((0, 1, 2), (3, 4, 5)))
        self.comes(all_tied(range(4)), prism((0, 1, 2, 3, 4, 5)))

    def test_several_parts(self):
        rings = beside_each_other(ring_of((0, 5, 7)), ring_of((1, 2, 8)), row_of((3, 6)), lone((9,)))
        self.comes(beside_each_other(ring_of((0, 1, 2)), ring_of((3, 4, 5))), rings)
        self.comes(beside_each_other(ring_of((0, 1, 2)), row_of((3, 4)), row_of((5, 6)), lone((7, 8))), rings)
        self.comes(beside_each_other(ring_of((0, 1, 2)), lone(range(3, 9))), rings)
        self.never(beside_each_other(ring_of((0, 1, 2)), lone(range(3, 10))), rings)
        self.never(beside_each_other(ring_of((0, 1, 2)), ring_of((3, 4, 5)), row_of((6, 7, 8))), rings)
        self.never(ring_of((0, 1, 2, 3)), rings)
        self.never(row_of((0, 1, 2, 3)), rings)
        self.comes(row_of((0, 1, 2)), rings)

    def test_whole_parts_are_spare(self):
        great = beside_each_other(all_tied((0, 1, 2, 3)), ring_of((4, 5, 6)), row_of((7, 8)), lone((9,)))
        self.comes(all_tied((0, 1, 2, 3)), great)
        self.comes(beside_each_other(ring_of((0, 1, 2)), row_of((3, 4))), great)
        self.comes(beside_each_other(row_of((0, 1)), row_of((2, 3)), row_of((4, 5)), row_of((6, 7))), great)
        self.never(beside_each_other(ring_of((0, 1, 2)), ring_of((3, 4, 5)), ring_of((6, 7, 8))), great)

    def test_trees(self):
        tree = made_web(range(7), ((0, 1), (0, 2), (1, 3), (1, 4), (2, 5), (5, 6)))
        self.comes(star_of(0, (1, 2, 3)), tree)
        self.never(star_of(0, (1, 2, 3, 4)), tree)
        self.comes(row_of((0, 1, 2, 3, 4, 5)), tree)
        self.never(row_of((0, 1, 2, 3, 4, 5, 6)), tree)
        self.never(ring_of((0, 1, 2)), tree)

    def test_far_names(self):
        great = renamed(ring_of((0, 1, 2, 3, 4, 5, 6)), FAR_NAMES)
        self.comes(renamed(ring_of((0, 1, 2)), FAR_NAMES[4:]), great)
        self.never(renamed(star_of(0, (1, 2, 3)), FAR_NAMES[3:]), great)

    def test_as_many_places_ties_and_rings_and_yet_never(self):
        self.never(prism((0, 1, 2, 3, 4, 5)), across((0, 1, 2), (3, 4, 5)))
        self.never(across((0, 1, 2), (3, 4, 5)), prism((0, 1, 2, 3, 4, 5)))
        self.never(ring_of((0, 1, 2, 3, 4, 5)), beside_each_other(ring_of((0, 1, 2)), ring_of((3, 4, 5))))
        self.never(beside_each_other(ring_of((0, 1, 2)), ring_of((3, 4, 5))), ring_of((0, 1, 2, 3, 4, 5)))

    def test_never_out_of_ten_places(self):
        spokes = tuple((place, 8 + place % 2) for place in range(8))
        two_hubs = made_web(range(10), ring_of(range(8))[1] + spokes + ((8, 9),))
        hubs = made_web(range(10), across(range(3), range(3, 10))[1] + ring_of((0, 1, 2))[1])
        self.never(all_tied(range(5)), hubs)
        self.never(ring_of(tuple(range(7))), hubs)
        self.comes(ring_of(tuple(range(6))), hubs)
        self.comes(all_tied(range(4)), hubs)
        self.comes(all_tied(range(5)), two_hubs)
        self.never(all_tied(range(6)), two_hubs)


class TestBuilt(ComesCase):
    def test_great_webs_built_of_heaps(self):
        chance = random.Random(19)
        for little in [web for web in SAMPLES if len(web[0]) <= 8] + unlike_webs(5):
            for time in range(4):
                self.comes(little, built_great_web(little, chance))

    def test_with_names_of_a_hundred_figures(self):
        chance = random.Random(100)
        for little in unlike_webs(4):
            great = built_great_web(little, chance)
            self.comes(little, renamed(great, [FARTHEST - name for name in great[0]]))


class TestTheWhole(ComesCase):
    def test_what_comes_by_a_row_is_told_to_come(self):
        chance = random.Random(5)
        for web in SAMPLES + (PETERSEN,):
            for many in (1, 2, 4, 7, 12):
                row, standing = some_row(web, chance, many)
                self.comes(standing[-1], web)

    def test_each_web_behind_one_step(self):
        for web in SAMPLES:
            if len(web[1]) < 20:
                for step in steps_of(web):
                    self.comes(stepped(web, step), web)
                    self.never(web, stepped(web, step))

    def test_unlike_drawings_with_equal_numbers_beside_the_places(self):
        great = beside_each_other(ring_of((0, 4, 1, 5)), ring_of((1, 2, 6, 3, 4)), row_of((2, 7)))
        unlike = []
        for a, b in great[1]:
            drawing = stepped(great, ("draw", a, b))
            if all(alike(drawing, other) is None for other in unlike):
                unlike.append(drawing)
            self.comes(drawing, great)
        self.assertLess(len({marks_of(web) for web in unlike}), len(unlike))

    def test_a_row_and_a_laying_are_told_of_the_heaps(self):
        for little in unlike_webs(4):
            for great in (PETERSEN, prism((0, 1, 2, 3, 4, 5)), ring_of((8, 3, 20, 1, 9))):
                heaps = comes_out(little, great)
                if heaps is not None:
                    row, laying = self.told(row_of_heaps, little, great, heaps)
                    self.assertTrue(is_laying(little, gone_row(great, row), laying))

    def test_through_a_middle_web(self):
        chance = random.Random(50)
        for great in SAMPLES + (PETERSEN,):
            row, standing = some_row(great, chance, 4)
            further, ended = some_row(standing[-1], chance, 4)
            middle, little = standing[-1], ended[-1]
            heaps = behind(middle, comes_out(little, middle), comes_out(middle, great))
            self.assertTrue(are_holding_heaps(little, great, heaps))
            self.comes(little, great)

    def test_each_out_of_the_other_just_where_they_are_alike(self):
        webs = unlike_webs(5) + [renamed(web, (8, 3, 20, 1, 9)[: len(web[0])]) for web in unlike_webs(4)]
        for one, other in itertools.combinations(webs, 2):
            both = self.asked(one, other) and self.asked(other, one)
            self.assertEqual(both, alike(one, other) is not None)
