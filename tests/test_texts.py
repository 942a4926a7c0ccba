"""[39], [40]: webs and heaps written, webs read back, and what is refused; steps as they are read."""

import itertools
import random
import re

from tests.helper import CHAIN, FAR, FARTHEST, WebCase
from tests.helper import SAMPLES as ALL_SAMPLES
from tests.helper import all_tied, few_placed_webs, is_right_web, lone, made_web, renamed, ring_of, rises, row_of
from tests.helper import star_of
from webdown.errors import NoText, TooGreat
from webdown.texts import heaps_text, read_step, read_web, web_text

SAMPLES = tuple(web for web in ALL_SAMPLES + (CHAIN,) if all(place <= 9999 for place in web[0]))

NUMBER = "(?:0|[1-9][0-9]{0,3})"
LONE = re.compile(f"({NUMBER})")
TIE = re.compile(f"({NUMBER})-({NUMBER})")


def written(web):
    """By the words of [39]."""
    tied = {place for tie in web[1] for place in tie}
    words = [str(place) for place in web[0] if place not in tied] + ["-".join(map(str, tie)) for tie in web[1]]
    return " ".join(words) or "-"


def read(text):
    """By the words of [39], word by word: a web of however many places, or None."""
    if text == "-":
        return ((), ())
    lone_ones, ties = [], []
    for word in text.split(" "):
        tie = TIE.fullmatch(word)
        if tie:
            ties.append((int(tie[1]), int(tie[2])))
        elif LONE.fullmatch(word) and not ties:
            lone_ones.append(int(word))
        else:
            return None
    tied = {place for tie in ties for place in tie}
    right = rises(lone_ones) and rises(ties) and all(a < b for a, b in ties) and not tied & set(lone_ones)
    return made_web([*lone_ones, *tied], ties) if right else None


# A text of a web, and of the same one spoilt in one way each.
RIGHT = "2 4 30 0-1 0-9999 1-20"
SPOILT = (
    "",
    " ",
    "--",
    "- ",
    " -",
    "- -",
    "-1",
    "1-",
    "0-",
    "-0-1",
    "+1",
    "1+2",
    "a",
    "1a",
    "0x1",
    "1_0",
    "1.0",
    "1,2",
    "0-1,1-20",
    "1 - 2",
    "0-1-2",
    "0--1",
    "3-3",
    "0-0",
    "00",
    "01",
    "007",
    "01-2",
    "1-02",
    "0-00",
    "10000",
    "99999",
    "0-10000",
    "10000-10001",
    "00001",
    # A blank too many or too few.
    " 2 4 30 0-1 0-9999 1-20",
    "2 4 30 0-1 0-9999 1-20 ",
    "2  4 30 0-1 0-9999 1-20",
    "2 4 30  0-1 0-9999 1-20",
    "2 4 300-1 0-9999 1-20",
    "2 4 30 0-10-9999 1-20",
    # A tie turned round; a tie or a lone place twice; out of order; a lone place that is tied.
    "2 4 30 1-0 0-9999 1-20",
    "2 4 30 0-1 0-9999 20-1",
    "2 4 30 0-1 0-1 0-9999 1-20",
    "2 4 30 0-1 0-9999 1-20 1-20",
    "2 4 30 0-1 1-0 0-9999 1-20",
    "2 2 4 30 0-1 0-9999 1-20",
    "2 4 30 30 0-1 0-9999 1-20",
    "4 2 30 0-1 0-9999 1-20",
    "2 30 4 0-1 0-9999 1-20",
    "2 4 30 0-9999 0-1 1-20",
    "2 4 30 0-1 1-20 0-9999",
    "0-1 0-9999 1-20 2 4 30",
    "2 4 0-1 30 0-9999 1-20",
    "2 4 20 30 0-1 0-9999 1-20",
    "0 2 4 30 0-1 0-9999 1-20",
    "2 4 30 0-1 0-9999 1-20 -",
    "- 2 4 30 0-1 0-9999 1-20",
    "2 4 30 0-1 0-9999 1-20 0",
)


class TestWritten(WebCase):
    def test_webs(self):
        for web, text in (
            (((), ()), "-"),
            (((0,), ()), "0"),
            (((0, 1, 4, 20), ((0, 1), (1, 20))), "4 0-1 1-20"),
            (lone((0, 10, 9999)), "0 10 9999"),
            (row_of((3, 0)), "0-3"),
            (ring_of((9, 10, 11)), "9-10 9-11 10-11"),
            (star_of(100, (2, 30, 1000)), "2-100 30-100 100-1000"),
            (made_web((0, 1, 2, 4, 20, 30, 9999), ((0, 1), (1, 20), (0, 9999))), RIGHT),
        ):
            self.assertEqual(self.told(web_text, web), text)
            self.assertEqual(self.told_web(read_web, text), web)

    def test_written_and_read_back(self):
        small = [renamed(web, (0, 9, 10, 999, 9999)[: len(web[0])]) for web in few_placed_webs(4)]
        for web in small + list(SAMPLES):
            text = self.told(web_text, web)
            self.assertEqual(text, written(web))
            self.assertEqual(self.told_web(read_web, text), web)

    def test_a_place_above_9999(self):
        for great in (10000, 10001, 99999, FAR, FARTHEST):
            for web in (lone((great,)), lone((0, great)), row_of((0, great)), row_of((great, great + 1))):
                self.refused(TooGreat, web_text, web)
        self.assertEqual(self.told(web_text, row_of((9998, 9999))), "9998-9999")


class TestRead(WebCase):
    def test_spoilt(self):
        self.assertTrue(is_right_web(read_web(RIGHT)))
        for text in SPOILT:
            with self.subTest(text=text):
                self.refused(NoText, read_web, text)

    def test_each_sign_spoilt(self):
        for spot in range(len(RIGHT) + 1):
            for sign in " -+.0159a~_\n":
                for text in (RIGHT[:spot] + sign + RIGHT[spot:], RIGHT[:spot] + sign + RIGHT[spot + 1 :]):
                    self.look_at(text)
            self.look_at(RIGHT[:spot] + RIGHT[spot + 1 :])

    def look_at(self, text):
        web = read(text)
        if web is None:
            self.refused(NoText, read_web, text)
        elif len(web[0]) > 10:
            self.refused(TooGreat, read_web, text)
        else:
            self.assertEqual(self.told_web(read_web, text), web, text)
            self.assertEqual(web_text(web), text)

    def test_all_short_texts(self):
        for many in range(6):
            for signs in itertools.product("013- +", repeat=many):
                self.look_at("".join(signs))

    def test_texts_by_chance(self):
        chance = random.Random(39)
        numbers = ("0", "1", "2", "3", "10", "11", "9999", "10000", "00", "01", "")
        for time in range(3000):
            words = []
            for word in range(chance.randint(1, 4)):
                first, other = chance.choice(numbers), chance.choice(numbers)
                words.append(first if chance.random() < 0.4 else f"{first}-{other}")
            self.look_at(" ".join(sorted(words, key=lambda word: ("-" in word, len(word), word))))

    def test_numbers(self):
        for number in (0, 1, 9, 10, 99, 100, 999, 1000, 1001, 9999):
            web = row_of((number, 5000))
            self.assertEqual(self.told_web(read_web, str(number)), lone((number,)))
            self.assertEqual(self.told_web(read_web, f"{number}-5000" if number < 5000 else f"5000-{number}"), web)

    def test_signs_that_are_figures_elsewhere(self):
        for text in ("\u0661", "\u00b2", "1\u00b2", "\uff11", "0-\u0661"):
            self.refused(NoText, read_web, text)

    def test_more_than_ten_places(self):
        lone_ones = (lone(range(11)), lone(range(9989, 10000)))
        for web in lone_ones + (row_of(range(11)), ring_of(range(20)), all_tied(range(12))):
            self.refused(TooGreat, read_web, written(web))
        self.assertEqual(self.told_web(read_web, written(all_tied(range(10)))), all_tied(range(10)))
        self.assertEqual(self.told_web(read_web, "0 1 2 3 4 5 6 7 8 9"), lone(range(10)))

    def test_no_text_ahead_of_too_great(self):
        right = written(lone(range(100, 111)))
        self.refused(NoText, read_web, " " + right)
        for spoilt in (" ", " 5", " 110", " 10000", " 3-2", " x"):
            self.refused(NoText, read_web, right + spoilt)


class TestHeapsText(WebCase):
    def test_heaps(self):
        for heaps, text in (
            ((), "-"),
            (((0,),), "0"),
            (((0,), (1, 20)), "0 1+20"),
            (((1, 20), (0,)), "1+20 0"),
            (((9, 10, 11, 9999),), "9+10+11+9999"),
            (tuple((place,) for place in range(10)), "0 1 2 3 4 5 6 7 8 9"),
            (((0, 2), (1, 3), (4,)), "0+2 1+3 4"),
        ):
            self.assertEqual(self.told(heaps_text, heaps), text)

    def test_a_place_above_9999(self):
        for great in (10000, 99999, FAR, FARTHEST):
            for heaps in (((great,),), ((0,), (1, great)), ((great, great + 1), (2,)), ((1,), (great,), (2,))):
                self.refused(TooGreat, heaps_text, heaps)
        self.assertEqual(self.told(heaps_text, ((9998, 9999), (0,))), "9998+9999 0")


class TestReadStep(WebCase):
    def test_steps(self):
        for text, step in (
            ("tie 0 1", ("tie", 0, 1)),
            ("tie 3 1", ("tie", 3, 1)),
            ("tie 3 3", ("tie", 3, 3)),
            ("place 9999", ("place", 9999)),
            ("draw 20 0", ("draw", 20, 0)),
            ("draw 0 20", ("draw", 0, 20)),
        ):
            self.assertEqual(self.told(read_step, text.split(" ")), step)

    def test_no_steps(self):
        for text in (
            "",
            "tie",
            "tie 0",
            "tie 0 1 2",
            "tie 0  1",
            "tie 0 01",
            "tie 0 10000",
            "tie 0-1",
            "tie a 1",
            "place",
            "place 0 1",
            "place -1",
            "place +1",
            "draw",
            "draw 0",
            "draw 0 1 2",
            "pull 0 1",
            "Tie 0 1",
            "0 1",
            "0",
        ):
            self.assertIsNone(self.told(read_step, text.split(" ")), text)
