"""[20], [25], [28] to [30], and [5] as far as it speaks of kinds: makings, bars, and which of the two is told."""

import itertools
import random

from tests.helper import BARS, CHAIN, FAR, FAR_NAMES, FARTHEST, SAMPLES, STRANGE, WebCase
from tests.helper import across, all_tied, are_holding_heaps, beside_each_other, few_placed_webs, is_making, is_of_kind
from tests.helper import is_order_of_width, is_right_web, lone, made_web, prism, renamed, ring_of, row_of, some_row
from tests.helper import spoilings, star_of, wheel
from webdown.errors import NoKind
from webdown.kinds import KINDS, bars_of, made, making_holds
from webdown.steps import stepped, steps_of
from webdown.widths import width_of

NO_KINDS = ("", "none", "Bare", "bare ", " bare", "row", "tree", "flats", "two", "of", "bars", "bare rows", "0")

# A web of each kind, which is of none ahead of that one, and a making.
MAKINGS = {
    "bare": (lone((0, 4, FAR)), ()),
    "rows": (beside_each_other(row_of((4, 1, 2)), row_of((3, 0)), lone((7,))), ((4, 1, 2), (0, 3), (7,))),
    "trees": (made_web(range(6), ((0, 1), (0, 2), (0, 3), (3, 5))), (1, 0, 2, 3, 4, 5)),
    "rings": (beside_each_other(ring_of((0, 1, 2)), row_of((2, 3)), lone((5,))), ((0, 1, 2), (3, 2))),
    "land": (beside_each_other(ring_of((0, 4, 1, 3)), row_of((0, 1))), (4, 1, 3, 0)),
    "twos": (across((0, 5), (1, 3, 4)), (1, 3, 4, 0, 5)),
    "flat": (all_tied((0, 2, 4, 6)), ((2, 4, 6), (0, 6, 4), (0, 2, 6), (0, 4, 2))),
}


def some_webs(chance, times):
    for time in range(times):
        many = chance.randint(6, 10)
        names = sorted(chance.sample(range(40), many))
        pairs = list(itertools.combinations(names, 2))
        yield made_web(names, chance.sample(pairs, chance.randint(many - 3, min(len(pairs), 3 * many))))


class TestKinds(WebCase):
    def test_the_seven_words(self):
        self.assertEqual(KINDS, ("bare", "rows", "trees", "rings", "land", "twos", "flat"))
        self.assertIs(type(KINDS), tuple)

    def test_no_kind(self):
        for word in NO_KINDS:
            self.refused(NoKind, bars_of, word)
            for web in (lone(()), row_of((0, 1)), all_tied(range(5))):
                self.refused(NoKind, made, word, web)
                for making in STRANGE + ((), (0, 1), (1, 0), ((0, 1),), ((1,), (0,))):
                    self.refused(NoKind, making_holds, word, web, making)

    def test_no_kind_ahead_of_all_else(self):
        for web in (None, (), 0, "", ((0, 0), ((1, 1),)), ((1, 0), ((0, 5),))):
            self.refused(NoKind, made, "none", web)
            self.refused(NoKind, making_holds, "none", web, None)

    def test_each_later_kind_has_each_web_of_an_earlier_one(self):
        for web in few_placed_webs(4) + list(SAMPLES) + [CHAIN]:
            is_of = [made(kind, web)[0] == "of" for kind in KINDS]
            self.assertEqual(is_of, sorted(is_of), web)

    def test_each_kind_has_more_webs_than_those_ahead_of_it(self):
        for number, kind in enumerate(KINDS):
            is_of = [made(each, MAKINGS[kind][0])[0] == "of" for each in KINDS]
            self.assertEqual(is_of, [place >= number for place in range(7)], kind)
        for web in (all_tied(range(5)), across((0, 1, 2), (3, 4, 5)), all_tied(range(10))):
            self.assertEqual([made(kind, web)[0] for kind in KINDS], ["bar"] * 7)


class TestMakings(WebCase):
    def test_makings_that_hold(self):
        for kind, (web, making) in MAKINGS.items():
            self.assertTrue(is_right_web(web))
            self.assertTrue(self.told_truth(making_holds, kind, web, making), kind)

    def test_the_makings_of_other_kinds(self):
        for kind in KINDS:
            for web, making in MAKINGS.values():
                expected = is_making(kind, web, making)
                self.assertEqual(self.told_truth(making_holds, kind, web, making), expected, (kind, web))

    def test_spoilt_at_each_spot(self):
        for kind, (web, making) in MAKINGS.items():
            for spoilt in spoilings(making):
                told = self.told_truth(making_holds, kind, web, spoilt)
                self.assertEqual(told, is_making(kind, web, spoilt), (kind, web, spoilt))

    def test_found_makings_spoilt(self):
        small = [web for web in SAMPLES if len(web[0]) <= 5]
        for web in small + [CHAIN]:
            for kind in KINDS:
                told = made(kind, web)
                if told[0] == "of":
                    for spoilt in spoilings(told[1])[::3]:
                        self.assertEqual(making_holds(kind, web, spoilt), is_making(kind, web, spoilt), (kind, spoilt))

    def test_one_way_each(self):
        spoilt = {
            "bare": ((0,), (None,), ("",), ((),)),
            "rows": (
                ((4, 1, 2), (0, 3), (7,), (7,)),
                ((4, 1, 2), (0, 3)),
                ((4, 1, 2), (0, 3), (7,), (5,)),
                ((1, 4, 2), (0, 3), (7,)),
                ((4, 1), (2,), (0, 3), (7,)),
                ((4, 1, 2), (0, 3, 7)),
                ((4, 1, 2), (0, 3), ()),
                ((4, 1, 2), (0, "3"), (7,)),
                ((4, 1, 2), (0, None), (7,)),
                ((4, 1, 2), (0, (3,)), (7,)),
                ((4, True, 2), (0, 3), (7,)),
                ((4, 1, 2), (0, 3), 7),
            ),
            "trees": (
                (1, 0, 2, 3, 4, 5, 5),
                (1, 0, 2, 3, 4),
                (1, 0, 2, 3, 4, 5, 6),
                (1, 2, 0, 3, 4, 5),
                ("1", 0, 2, 3, 4, 5),
                (None, 0, 2, 3, 4, 5),
                ((1,), 0, 2, 3, 4, 5),
                (True, 0, 2, 3, 4, 5),
                (1, False, 2, 3, 4, 5),
            ),
            "rings": (
                ((0, 1, 2, 2), (3, 2)),
                ((0, 1, 2),),
                ((0, 1, 2), (3, 2), (5,)),
                ((0, 1, 2), (3, 2), (2, 3)),
                ((0, 1, 3), (3, 2)),
                ((0, 1), (1, 2), (0, 2), (3, 2)),
                ((0, "1", 2), (3, 2)),
                ((0, None, 2), (3, 2)),
                ((0, (1,), 2), (3, 2)),
                ((0, True, 2), (3, 2)),
                ((0, 1, 2), 3),
            ),
            "land": (
                (4, 1, 3, 0, 0),
                (4, 1, 3),
                (4, 1, 3, 0, 2),
                (1, 4, 3, 0),
                (4, 1, 0, 3),
                ("4", 1, 3, 0),
                (None, 1, 3, 0),
                ((4,), 1, 3, 0),
                (4, True, 3, 0),
                (4, 1, 3, False),
            ),
            "twos": (
                (1, 3, 4, 0, 5, 5),
                (1, 3, 4, 0),
                (1, 3, 4, 0, 5, 2),
                (0, 3, 4, 1, 5),
                (5, 0, 4, 3, 1),
                ("1", 3, 4, 0, 5),
                (None, 3, 4, 0, 5),
                ((1,), 3, 4, 0, 5),
                (True, 3, 4, 0, 5),
                (1, 3, 4, False, 5),
            ),
            "flat": (
                ((2, 4, 6, 6), (0, 6, 4), (0, 2, 6), (0, 4, 2)),
                ((2, 4), (0, 6, 4), (0, 2, 6), (0, 4, 2)),
                ((2, 4, 6, 8), (0, 6, 4), (0, 2, 6), (0, 4, 2)),
                ((4, 2, 6), (0, 6, 4), (0, 2, 6), (0, 4, 2)),
                ((6, 4, 2), (0, 6, 4), (0, 2, 6), (0, 4, 2)),
                ((2, 4, 6), (0, 6, 4), (0, 2, 6)),
                ((2, 4, 6), (0, 6, 4), (0, 2, 6), (0, 4, 2), ()),
                ((0, 6, 4), (2, 4, 6), (0, 2, 6), (0, 4, 2)),
                ((2, "4", 6), (0, 6, 4), (0, 2, 6), (0, 4, 2)),
                ((2, None, 6), (0, 6, 4), (0, 2, 6), (0, 4, 2)),
                ((2, (4,), 6), (0, 6, 4), (0, 2, 6), (0, 4, 2)),
                ((2, 4, 6), (False, 6, 4), (0, 2, 6), (0, 4, 2)),
                (2, (0, 6, 4), (0, 2, 6), (0, 4, 2)),
            ),
        }
        self.assertEqual(tuple(spoilt), KINDS)
        for kind in KINDS:
            for making in spoilt[kind]:
                self.assertFalse(self.told_truth(making_holds, kind, MAKINGS[kind][0], making), (kind, making))

    def test_turned_round(self):
        for kind, making in (
            ("rows", ((2, 1, 4), (3, 0), (7,))),
            ("rows", ((7,), (0, 3), (4, 1, 2))),
            ("rings", ((2, 1, 0), (2, 3))),
            ("rings", ((3, 2), (1, 2, 0))),
            ("land", (0, 3, 1, 4)),
            ("land", (3, 0, 4, 1)),
            ("flat", ((4, 6, 2), (0, 6, 4), (6, 0, 2), (0, 4, 2))),
            ("flat", ((6, 4, 2), (4, 6, 0), (6, 2, 0), (2, 4, 0))),
        ):
            self.assertTrue(self.told_truth(making_holds, kind, MAKINGS[kind][0], making), (kind, making))

    def test_strange_things(self):
        for web in (lone(()), lone((0,)), lone((0, 1)), row_of((0, 1)), ring_of((0, 1, 2)), all_tied(range(5))):
            for kind in KINDS:
                for making in STRANGE:
                    told = self.told_truth(making_holds, kind, web, making)
                    self.assertEqual(told, is_making(kind, web, making), (kind, web, making))

    def test_twos_are_orders_of_width_two(self):
        wheeled = wheel(0, (2, 9, 11))
        square = beside_each_other(ring_of((0, 2, 9, 11)), row_of((0, 9)))
        for web in (ring_of((0, 2, 9, 11)), wheeled, square, star_of(2, (0, 9, 11)), lone((0, 2, 9, 11))):
            for order in itertools.permutations(web[0]):
                expected = is_order_of_width(web, 2, order)
                self.assertEqual(self.told_truth(making_holds, "twos", web, order), expected, (web, order))
        for web in few_placed_webs(4):
            self.assertEqual(made("twos", web)[0] == "of", width_of(web) <= 2)


class TestBars(WebCase):
    def test_the_eight_webs(self):
        bar = {
            1: ((0, 1), ((0, 1),)),
            2: ((0, 1, 2), ((0, 1), (0, 2), (1, 2))),
            3: ((0, 1, 2, 3), ((0, 1), (0, 2), (0, 3))),
            4: ((0, 1, 2, 3), ((0, 1), (0, 2), (0, 3), (1, 2), (1, 3))),
            5: all_tied(range(4)),
            6: across((0, 1), (2, 3, 4)),
            7: all_tied(range(5)),
            8: across((0, 1, 2), (3, 4, 5)),
        }
        for kind, numbers in (
            ("bare", (1,)),
            ("rows", (2, 3)),
            ("trees", (2,)),
            ("rings", (4,)),
            ("land", (5, 6)),
            ("twos", (5,)),
            ("flat", (7, 8)),
        ):
            self.assertEqual(self.told_tuple(bars_of, kind), tuple(bar[number] for number in numbers), kind)

    def test_no_bar_is_of_its_kind(self):
        for kind in KINDS:
            for number, bar in enumerate(bars_of(kind)):
                told = self.told_tuple(made, kind, bar)
                self.assertEqual(told[:2], ("bar", number))
                self.assertTrue(are_holding_heaps(bar, bar, told[2]))

    def test_behind_each_step_a_bar_is_of_its_kind(self):
        for kind in KINDS:
            for bar in bars_of(kind):
                for step in steps_of(bar):
                    told = self.told_tuple(made, kind, stepped(bar, step))
                    self.assertEqual(told[0], "of", (kind, bar, step))
                    self.assertTrue(is_making(kind, stepped(bar, step), told[1]))

    def test_the_bars_are_the_ones_that_the_tests_speak_of(self):
        self.assertEqual({kind: bars_of(kind) for kind in KINDS}, BARS)


class TestMade(WebCase):
    def look_at(self, web):
        for kind in KINDS:
            told = self.told_tuple(made, kind, web)
            self.assertEqual(told[0], "of" if is_of_kind(kind, web) else "bar", (kind, web))
            if told[0] == "of":
                self.assertEqual(len(told), 2)
                self.assertTrue(is_making(kind, web, told[1]), (kind, web, told))
                self.assertTrue(self.told_truth(making_holds, kind, web, told[1]))
            else:
                self.assertEqual(len(told), 3)
                self.assertIn(told[1], range(len(BARS[kind])))
                self.assertTrue(are_holding_heaps(BARS[kind][told[1]], web, told[2]), (kind, web, told))

    def test_all_webs_of_at_most_five_places(self):
        for web in few_placed_webs(5):
            self.look_at(web)

    def test_samples(self):
        for web in SAMPLES + (CHAIN,):
            self.look_at(web)

    def test_webs_by_chance(self):
        for web in some_webs(random.Random(30), 40):
            self.look_at(web)

    def test_great_ones(self):
        ring_with_spokes = wheel(9, range(9))
        for web in (
            ring_with_spokes,
            beside_each_other(ring_with_spokes, row_of((0, 4))),
            prism((0, 7, 10, FAR, FAR + 1, FARTHEST)),
            across(range(3), range(3, 10)),
            across(range(2), range(2, 10)),
            beside_each_other(all_tied((0, 2, 4, 6, 8)), ring_of((1, 3, 5, 7, 9))),
            renamed(across((0, 1, 2), (3, 4, 5)), FAR_NAMES[1:]),
            # A ring of ten with ties across: out of it a bar of flat comes, though each place has three beside it.
            beside_each_other(ring_of(range(10)), *(row_of((place, place + 5)) for place in range(5))),
        ):
            self.look_at(web)

    def test_either_bar(self):
        for kind in ("rows", "land", "flat"):
            for number, bar in enumerate(BARS[kind]):
                spare = beside_each_other(renamed(bar, (11, 9, 7, 5, 3, 2)[: len(bar[0])]), row_of((20, 21)))
                self.assertEqual(made(kind, spare)[:2], ("bar", number))

    def test_bars_with_ties_stretched(self):
        # Each tie of a bar as a row of two: its ends are drawn together again.
        for kind in KINDS:
            for number, bar in enumerate(BARS[kind]):
                middles = range(6, 6 + min(4, len(bar[1])))
                cut = [row_of((a, middle, b)) for (a, b), middle in zip(bar[1], middles)]
                web = beside_each_other(lone(bar[0]), *cut, made_web(bar[0], bar[1][len(middles) :]))
                self.look_at(web)
                self.assertEqual(made(kind, web)[0], "bar")

    def test_what_comes_out_of_a_web_of_a_kind_is_of_the_kind(self):
        for web in few_placed_webs(4):
            for kind in KINDS:
                if made(kind, web)[0] == "of":
                    for step in steps_of(web):
                        self.assertEqual(made(kind, stepped(web, step))[0], "of", (kind, web, step))
        chance = random.Random(5)
        for web in SAMPLES + (CHAIN,):
            kinds = [kind for kind in KINDS if made(kind, web)[0] == "of"]
            for standing in some_row(web, chance, 6)[1]:
                for kind in kinds:
                    self.assertEqual(made(kind, standing)[0], "of", (kind, web, standing))
