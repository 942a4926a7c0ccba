"""[1] to [5] over the whole program, and the interface: its names, arguments and kinds."""

import importlib
import inspect
import itertools
import random

from tests.helper import CHAIN, FAR_NAMES, SAMPLES, WebCase
from tests.helper import all_tied, few_placed_webs, is_laying, is_making, is_plain, is_right_web, lone, made_web
from tests.helper import renamed, ring_of, row_of, some_row, star_of
from webdown import errors
from webdown.asked import asked, looks
from webdown.comes import comes_out
from webdown.desk import Desk
from webdown.heaps import behind, heaps_hold, heaps_of_row, row_of_heaps
from webdown.kinds import KINDS, bars_of, made, making_holds
from webdown.layings import alike, laying_holds
from webdown.listing import listed
from webdown.pieces import led, tree_holds, tree_of
from webdown.steps import gone_row, stepped, steps_of
from webdown.texts import heaps_text, read_web, web_text
from webdown.webs import beside, counts_of, parts_of, web_of
from webdown.widths import near, slim, width_holds, width_of

# The functions of each file, as the interface tells them, with the arguments by their places.
INTERFACE = {
    "webs": (
        ("web_of", "places pairs"),
        ("beside", "web place"),
        ("parts_of", "web"),
        ("counts_of", "web"),
    ),
    "steps": (("steps_of", "web"), ("stepped", "web step"), ("gone_row", "web row")),
    "heaps": (
        ("heaps_hold", "little great heaps"),
        ("behind", "middle inner outer"),
        ("heaps_of_row", "web row"),
        ("row_of_heaps", "little great heaps"),
    ),
    "layings": (("laying_holds", "one other laying"), ("alike", "one other")),
    "listing": (("listed", "web"),),
    "comes": (("comes_out", "little great"),),
    "kinds": (("bars_of", "kind"), ("making_holds", "kind web making"), ("made", "kind web")),
    "widths": (
        ("near", "web gone place"),
        ("slim", "web k"),
        ("width_of", "web"),
        ("width_holds", "web k told"),
    ),
    "pieces": (
        ("tree_holds", "web k pieces links"),
        ("tree_of", "web order"),
        ("led", "little heaps pieces"),
    ),
    "asked": (("asked", "little great"), ("looks", "little great told")),
    "texts": (("web_text", "web"), ("heaps_text", "heaps"), ("read_web", "text")),
}


class TestInterface(WebCase):
    def test_functions(self):
        for file, functions in INTERFACE.items():
            module = importlib.import_module(f"webdown.{file}")
            for name, arguments in functions:
                with self.subTest(file=file, name=name):
                    parameters = list(inspect.signature(getattr(module, name)).parameters.values())
                    self.assertEqual([each.name for each in parameters], arguments.split(" "))
                    for each in parameters:
                        self.assertIs(each.kind, inspect.Parameter.POSITIONAL_OR_KEYWORD)
                        self.assertIs(each.default, inspect.Parameter.empty)

    def test_kinds_and_errors_and_the_desk(self):
        self.assertIs(type(KINDS), tuple)
        names = ("NoWeb", "NoPlace", "NoStep", "NoKind", "TooGreat", "NoText", "NoLine", "NoName", "NothingDone")
        for name in names:
            self.assertEqual(getattr(errors, name).__bases__, (errors.WebError,))
        self.assertEqual(errors.WebError.__bases__, (ValueError,))
        self.assertIsInstance(Desk(), Desk)
        self.assertEqual(list(inspect.signature(Desk).parameters), [])
        self.assertEqual(list(inspect.signature(Desk().tell).parameters), ["line"])


def some_pairs():
    webs = few_placed_webs(3) + [renamed(web, FAR_NAMES[: len(web[0])]) for web, rows in listed(all_tied(range(4)))]
    chance = random.Random(1)
    for time in range(8):
        many = chance.randint(5, 7)
        pairs = list(itertools.combinations(range(many), 2))
        webs.append(made_web(range(many), chance.sample(pairs, chance.randint(4, len(pairs) - 2))))
    return list(itertools.product(webs, repeat=2))


class TestThePromise(WebCase):
    def test_heaps_or_a_paper(self):
        for little, great in some_pairs():
            told = self.told_tuple(asked, little, great)
            heaps = self.told(comes_out, little, great)
            self.assertEqual(told[0] == "comes", heaps is not None)
            if heaps is not None:
                for each in (heaps, told[1]):
                    self.assertTrue(heaps_hold(little, great, each))
                    row, laying = row_of_heaps(little, great, each)
                    self.assertTrue(is_laying(little, gone_row(great, row), laying))
            self.assertEqual(looks(little, great, told), told != ("never",), (little, great, told))

    def test_each_out_of_the_other(self):
        for little, great in some_pairs():
            both = comes_out(little, great) is not None and comes_out(great, little) is not None
            self.assertEqual(both, alike(little, great) is not None, (little, great))

    def test_what_comes_out_of_a_web_of_a_kind_and_of_a_width(self):
        for little, great in some_pairs():
            if comes_out(little, great) is not None:
                self.assertLessEqual(width_of(little), width_of(great), (little, great))
                for kind in KINDS:
                    if made(kind, great)[0] == "of":
                        self.assertEqual(made(kind, little)[0], "of", (kind, little, great))

    def test_kinds_and_bars(self):
        for web in SAMPLES + (CHAIN,):
            for kind in KINDS:
                told = self.told_tuple(made, kind, web)
                bars = [bar for bar in bars_of(kind) if comes_out(bar, web) is not None]
                self.assertEqual(told[0] == "of", bars == [])
                if told[0] == "of":
                    self.assertTrue(is_making(kind, web, told[1]))
                else:
                    self.assertTrue(heaps_hold(bars_of(kind)[told[1]], web, told[2]))

    def test_trees_of_widths_and_heaps(self):
        chance = random.Random(2)
        for web in SAMPLES + (CHAIN,):
            k = width_of(web)
            pieces, links = tree_of(web, slim(web, k)[1])
            row, standing = some_row(web, chance, 5)
            for web_then, many in zip(standing, range(len(row) + 1)):
                heaps = heaps_of_row(web, row[:many])
                self.assertTrue(tree_holds(web_then, k, led(web_then, heaps, pieces), links))
                self.assertLessEqual(width_of(web_then), k)


class TestAskedAgain(WebCase):
    def questions(self, web):
        order = slim(web, width_of(web))[1]
        yield from ((web_of, web[0][::-1], web[1][::-1]), (parts_of, web), (counts_of, web), (steps_of, web))
        yield from ((alike, web, web), (comes_out, web, web), (asked, web, web), (width_of, web), (tree_of, web, order))
        for place in web[0]:
            yield from ((beside, web, place), (near, web, (), place))
        for k in range(10):
            yield from ((slim, web, k), (width_holds, web, k, slim(web, k)))
        for kind in KINDS:
            yield from ((made, kind, web), (bars_of, kind), (making_holds, kind, web, ()))
        for step in steps_of(web):
            yield from ((stepped, web, step), (gone_row, web, (step,)), (heaps_of_row, web, (step,)))
        heaps = tuple((place,) for place in web[0])
        yield from ((row_of_heaps, web, web, heaps), (behind, web, heaps, heaps), (laying_holds, web, web, web[0]))
        yield from ((led, web, heaps, heaps), (tree_holds, web, 9, heaps, ()), (looks, web, web, ("comes", heaps)))
        if len(web[0]) <= 5:
            yield (listed, web)
        if all(place <= 9999 for place in web[0]):
            yield from ((web_text, web), (heaps_text, heaps), (read_web, web_text(web)))

    def test_whatever_was_asked_in_between(self):
        asked_of = [question for web in SAMPLES for question in self.questions(web)]
        first = [repr(function(*arguments)) for function, *arguments in asked_of]
        both = list(zip(asked_of, first))
        random.Random(3).shuffle(both)
        for (function, *arguments), answer in both:
            told = function(*arguments)
            self.assertTrue(is_plain(told))
            self.assertEqual(repr(told), answer, (function, arguments))

    def test_webs_that_are_equal(self):
        # The same web, made anew.
        for web in SAMPLES:
            same = web_of(tuple(list(web[0])), tuple(tuple(list(tie)) for tie in web[1]))
            self.assertTrue(is_right_web(same))
            for kind in KINDS:
                self.assertEqual(made(kind, same), made(kind, web))
            self.assertEqual(asked(same, web), asked(web, same))


class TestRefusedChangesNothing(WebCase):
    def test_refusals_between_questions(self):
        web = ring_of((0, 2, 4))
        refusals = (
            (errors.NoWeb, web_of, (0, 1), ((0, 0),)),
            (errors.TooGreat, web_of, tuple(range(11)), ()),
            (errors.NoPlace, beside, web, 1),
            (errors.NoPlace, near, web, (0,), 0),
            (errors.NoStep, stepped, web, ("tie", 2, 0)),
            (errors.NoStep, gone_row, web, (("place", 0), ("place", 0))),
            (errors.NoStep, heaps_of_row, web, (("draw", 0, 1),)),
            (errors.TooGreat, listed, lone(range(6))),
            (errors.NoKind, made, "none", web),
            (errors.NoKind, bars_of, ""),
            (errors.NoKind, making_holds, "Flat", web, ()),
            (errors.TooGreat, web_text, row_of((0, 10000))),
            (errors.TooGreat, heaps_text, ((10000,),)),
            (errors.NoText, read_web, ""),
            (errors.TooGreat, read_web, "0 1 2 3 4 5 6 7 8 9 10"),
        )

        def answers():
            return [made(kind, web) for kind in KINDS] + [asked(web, star_of(1, (0, 2))), slim(web, 1), web_text(web)]

        ahead = answers()
        for error, *asked_of in refusals:
            self.refused(error, *asked_of)
            self.assertEqual(answers(), ahead)
