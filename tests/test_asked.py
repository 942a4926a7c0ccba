"""[37], [38]: what is told of any two webs, and papers looked through, right ones and spoilt ones."""

import itertools
import random

from tests.helper import BARS, CHAIN, FAR, FAR_NAMES, FARTHEST, SAMPLES, STRANGE, WebCase
from tests.helper import across, all_tied, are_holding_heaps, are_numbers, are_tuples_of_numbers, beside_each_other
from tests.helper import few_placed_webs, is_laying, is_making, is_of_kind, is_order_of_width, is_right_web
from tests.helper import is_wide_paper, lone, made_web, prism, renamed, ring_of, row_of, some_heaps, some_row
from tests.helper import spoilings, star_of, wheel
from webdown.asked import asked, looks
from webdown.heaps import heaps_of_row
from webdown.kinds import made
from webdown.layings import alike
from webdown.listing import listed
from webdown.steps import stepped, steps_of
from webdown.webs import counts_of
from webdown.widths import slim, width_of


def is_web(value):
    return (
        type(value) is tuple
        and len(value) == 2
        and are_numbers(value[0])
        and are_tuples_of_numbers(value[1])
        and all(len(tie) == 2 for tie in value[1])
        and is_right_web(value)
    )


def are_lines(little, great, lines):
    """By the words of [38]."""
    if len(great[0]) > 5 or type(lines) is not tuple or not lines:
        return False
    for line in lines:
        if type(line) is not tuple or len(line) != 2 or not is_web(line[0]) or type(line[1]) is not tuple:
            return False
    webs = [line[0] for line in lines]
    if webs[0] != great or any(alike(little, web) is not None for web in webs):
        return False
    for web, rows in lines:
        if len(rows) != len(steps_of(web)):
            return False
        for step, row in zip(steps_of(web), rows):
            if type(row) is not tuple or len(row) != 2 or type(row[0]) is not int or not are_numbers(row[1]):
                return False
            if row[0] not in range(len(lines)) or not is_laying(stepped(web, step), webs[row[0]], row[1]):
                return False
    return True


def are_heaps(little, great, heaps):
    return are_tuples_of_numbers(heaps) and are_holding_heaps(little, great, heaps)


def shows(little, great, told):
    """By the words of [38], of whatever tuple."""
    if type(told) is not tuple or not told:
        return False
    word, *rest = told
    if word == "comes" and len(rest) == 1:
        return are_heaps(little, great, rest[0])
    if word == "few" and len(rest) == 1:
        number = rest[0]
        return type(number) is int and number in (0, 1, 2) and counts_of(little)[number] > counts_of(great)[number]
    if word == "kind" and len(rest) == 4:
        kind, making, number, heaps = rest
        if kind not in tuple(BARS) or not is_making(kind, great, making) or type(number) is not int:
            return False
        return number in range(len(BARS[kind])) and are_heaps(BARS[kind][number], little, heaps)
    if word == "slim" and len(rest) == 3:
        k, order, sets = rest
        if type(k) is not int or k not in range(10) or not are_numbers(order) or not are_tuples_of_numbers(sets):
            return False
        return is_order_of_width(great, k, order) and is_wide_paper(little, k, sets)
    return word == "listed" and len(rest) == 1 and are_lines(little, great, rest[0])


def has_paper(little, great):
    """Whether one of the four papers is there, of webs of which the little one does not come out of the great one."""
    return (
        any(less > more for less, more in zip(counts_of(little), counts_of(great)))
        or any(is_of_kind(kind, great) and not is_of_kind(kind, little) for kind in BARS)
        or width_of(little) > width_of(great) < 10
        or len(great[0]) <= 5
    )


def all_papers(little, great):
    """Of each shape those that are there, told by the files that the papers are made of."""
    heaps = some_heaps(little, great)
    papers = [] if heaps is None else [("comes", heaps)]
    papers += [("few", n) for n in range(3) if counts_of(little)[n] > counts_of(great)[n]]
    for kind in BARS:
        of_great, of_little = made(kind, great), made(kind, little)
        if of_great[0] == "of" and of_little[0] == "bar":
            papers.append(("kind", kind, of_great[1], *of_little[1:]))
    for k in range(width_of(great), width_of(little)):
        papers.append(("slim", k, slim(great, k)[1], slim(little, k)[1]))
    if len(great[0]) <= 5 and heaps is None:
        papers.append(("listed", listed(great)))
    return papers


# Of webs that are alike one, all of at most five places, some under far names.
UNLIKE = [line[0] for line in listed(all_tied((0, 3, 10, FAR, FARTHEST)))]

# THREE_WIDE is not flat, and of width 3, so that FIVE does not come out of it; for the pair NEVER no paper is there.
FIVE = all_tied(range(5))
THREE_WIDE = beside_each_other(across((0, 1, 2), (3, 4, 5, 6, 7)), ring_of((0, 1, 2)))
NEVER = (prism((0, 7, 10, FAR, FAR + 1, FARTHEST)), across((0, 1, 2), (3, 4, 5)))


def lines_of_lone(many, start):
    """A list of all that comes out of so many lone places, its first line having this number."""
    lines = []
    for left in range(many, -1, -1):
        row = (start + len(lines) + 1, tuple(range(left - 1)))
        lines.append((lone(range(left)), (row,) * left))
    return tuple(lines)


class AskedCase(WebCase):
    def look_at(self, little, great):
        told = self.told_tuple(asked, little, great)
        comes = some_heaps(little, great) is not None
        self.assertEqual(told[0] == "comes", comes, (little, great, told))
        if told == ("never",):
            self.assertFalse(has_paper(little, great), (little, great))
            self.assertFalse(self.told_truth(looks, little, great, told))
        else:
            self.assertTrue(shows(little, great, told), (little, great, told))
            self.assertTrue(self.told_truth(looks, little, great, told), (little, great, told))
        return told

    def compare(self, little, great, told):
        self.assertEqual(self.told_truth(looks, little, great, told), shows(little, great, told), (little, great, told))


class TestAsked(AskedCase):
    def test_each_pair_of_few_places(self):
        for little, great in itertools.product(few_placed_webs(3), repeat=2):
            self.look_at(little, great)
        pairs = list(itertools.product(UNLIKE, repeat=2))
        small = [pair for pair in pairs if len(pair[0][0]) < 5 and len(pair[1][0]) < 5]
        for little, great in small + pairs[::3]:
            self.look_at(renamed(little, range(1, 1 + len(little[0]))), great)

    def test_each_shape(self):
        tied = beside_each_other(row_of((0, 1)), row_of((2, 3)))
        for little, great, word in (
            (ring_of((0, 1, 2)), ring_of((4, 7, 9, FAR)), "comes"),
            (lone((0, 1)), lone((5,)), "few"),
            (ring_of((0, 1, 2)), row_of((0, 1, 2, 3)), "few"),
            (star_of(0, (1, 2, 3)), row_of(range(10)), "kind"),
            (across((0, 1, 2), (3, 4, 5)), prism(range(6)), "kind"),
            (FIVE, THREE_WIDE, "slim"),
            (tied, star_of(0, (1, 2, 3)), "listed"),
            (NEVER[0], NEVER[1], "never"),
        ):
            self.assertEqual(self.look_at(little, great)[0], word, (little, great))
        self.assertEqual(self.told(asked, *NEVER), ("never",))

    def test_the_web_without_places(self):
        for web in SAMPLES:
            self.assertEqual(self.told(asked, ((), ()), web), ("comes", ()))
            if web != ((), ()):
                self.assertEqual(self.look_at(web, ((), ()))[0], "few")

    def test_out_of_itself(self):
        for web in SAMPLES + (CHAIN,):
            self.assertEqual(self.look_at(web, web)[0], "comes")

    def test_samples(self):
        for little, great in itertools.product(SAMPLES[::2], SAMPLES[1::2]):
            self.look_at(little, great)
            self.look_at(great, little)

    def test_webs_by_chance(self):
        chance, words = random.Random(37), []
        for time in range(120):
            many = chance.randint(6, 9)
            pairs = list(itertools.combinations(range(many), 2))
            great = made_web(range(many), chance.sample(pairs, chance.randint(many, len(pairs) * 2 // 3)))
            pairs = list(itertools.combinations(range(many - chance.randint(0, 1)), 2))
            ties = chance.randint(many - 3, min(len(pairs), len(great[1])))
            little = made_web(range(pairs[-1][1] + 1), chance.sample(pairs, ties))
            words.append(self.look_at(little, great)[0])
        self.assertLessEqual({"comes", "kind", "never"}, set(words))

    def test_somewhat_more_than_ten_places(self):
        # All of the first k + 1 places tied, and two more with k of them: of width k, and no kind has such webs.
        for k, word in ((9, "slim"), (10, "never")):
            hanging = [star_of(k + 1 + more, range(k)) for more in range(2)]
            great = beside_each_other(all_tied(range(k + 1)), *hanging)
            self.assertEqual(self.look_at(all_tied(range(k + 2)), great)[0], word)

    def test_what_a_row_leads_to_comes_out(self):
        chance = random.Random(5)
        for web in SAMPLES:
            standing = some_row(web, chance, 7)[1]
            for little in standing[:: max(1, len(standing) - 1)]:
                self.assertEqual(self.look_at(little, web)[0], "comes")


class TestLooks(AskedCase):
    def spoilt(self, little, great, tellings):
        for told in tellings:
            self.assertFalse(self.told_truth(looks, little, great, told), (little, great, told))

    def test_each_paper_that_is_there(self):
        seen = {}
        great_ones = [FIVE, THREE_WIDE, prism(range(6)), across((0, 1, 2), (3, 4, 5)), wheel(0, (1, 2, 3, 4, 5))]
        for little, great in itertools.product(UNLIKE[::8] + great_ones, repeat=2):
            for told in all_papers(little, great):
                seen[told[0]] = True
                self.assertTrue(self.told_truth(looks, little, great, told), (little, great, told))
        self.assertEqual(set(seen), {"comes", "few", "kind", "slim", "listed"})

    def test_the_papers_of_other_pairs(self):
        webs = [lone(()), lone((0,)), row_of((0, 1, 2)), ring_of((0, 1, 2)), star_of(0, (1, 2, 3)), all_tied(range(4))]
        pairs = list(itertools.product(webs, repeat=2))
        papers = [told for little, great in pairs for told in all_papers(little, great)]
        for little, great in pairs:
            for told in papers:
                self.compare(little, great, told)

    def test_spoilt_at_each_spot(self):
        ring, star = ring_of((0, 1, 2)), star_of(0, (1, 2, 3))
        for little, great in (
            (lone(()), ring),
            (row_of((0, 1)), ring),
            (ring, row_of((0, 1))),
            (ring, lone(())),
            (ring, star),
            (star, ring),
            (star, row_of((0, 1, 2, 3))),
            (row_of((0, 1)), lone((0, 1))),
            (all_tied(range(4)), ring_of((0, 1, 2, 3))),
        ):
            for paper in all_papers(little, great):
                # Of those of a list there are very many.
                for told in spoilings(paper)[:: 9 if paper[0] == "listed" else 1]:
                    self.compare(little, great, told)

    def test_comes_spoilt(self):
        little, great = ring_of((0, 1, 2)), ring_of((4, 7, 9, FAR))
        heaps = ((4, 7), (9,), (FAR,))
        self.assertTrue(self.told_truth(looks, little, great, ("comes", heaps)))
        self.spoilt(
            little,
            great,
            (
                ("comes", heaps[:2]),
                ("comes", heaps + ((4,),)),
                ("comes", ((7, 4), (9,), (FAR,))),
                ("comes", ((4, 7), (7, 9), (FAR,))),
                ("comes", ((4, 9), (7,), (FAR,))),
                ("comes", ((), (9,), (FAR,))),
                ("comes", heaps, heaps),
                ("comes",),
                ("came", heaps),
                ("comes", None),
                ("never",),
            ),
        )

    def test_few_spoilt(self):
        little, great = ring_of((0, 1, 2)), row_of((0, 1, 2, 3))
        self.assertEqual([self.told_truth(looks, little, great, ("few", n)) for n in (0, 1, 2)], [False, False, True])
        strange = (("few", "2"), ("few", None), ("few", (2,)), ("few",), ("few", 2, 2), ("fewer", 2))
        self.spoilt(little, great, strange + (("few", 3), ("few", -1)))
        self.assertTrue(self.told_truth(looks, lone((0, 1)), lone((0,)), ("few", 0)))
        self.spoilt(lone((0, 1)), lone((0,)), (("few", False), ("few", 1), ("few", -3)))
        self.assertTrue(self.told_truth(looks, row_of((0, 1)), lone((0, 1)), ("few", 1)))
        self.spoilt(row_of((0, 1)), lone((0, 1)), (("few", True), ("few", 0), ("few", 2), ("few", -2)))

    def test_kind_spoilt(self):
        little, great = star_of(0, (1, 2, 3)), row_of((4, 5, 6, 7))
        making, heaps = ((4, 5, 6, 7),), ((0,), (1,), (2,), (3,))
        self.assertTrue(self.told_truth(looks, little, great, ("kind", "rows", making, 1, heaps)))
        self.spoilt(
            little,
            great,
            (
                ("kind", "rows", making, 0, heaps),
                ("kind", "rows", making, 2, heaps),
                ("kind", "rows", making, -1, heaps),
                ("kind", "rows", making, True, heaps),
                ("kind", "rows", making, "1", heaps),
                ("kind", "rows", making, None, heaps),
                ("kind", "trees", (4, 5, 6, 7), 0, heaps),
                ("kind", "Rows", making, 1, heaps),
                ("kind", "none", making, 1, heaps),
                ("kind", None, making, 1, heaps),
                ("kind", 1, making, 1, heaps),
                ("kind", ("rows",), making, 1, heaps),
                ("kind", "rows", ((4, 5, 6), (7,)), 1, heaps),
                ("kind", "rows", (4, 5, 6, 7), 1, heaps),
                ("kind", "rows", making, 1, ((1,), (0,), (2,), (3,))),
                ("kind", "rows", making, 1, heaps[:3]),
                ("kind", "rows", making, 1, None),
                ("kind", "rows", making, 1),
                ("kind", "rows", making, 1, heaps, ()),
                ("kinds", "rows", making, 1, heaps),
                ("rows", making, 1, heaps),
            ),
        )
        # The making is one of the great web, the heaps lie in the little one.
        self.spoilt(great, little, (("kind", "rows", making, 1, heaps),))
        self.spoilt(great, great, (("kind", "rows", making, 1, heaps),))
        self.spoilt(little, little, (("kind", "rows", making, 1, heaps),))

    def test_slim_spoilt(self):
        order, sets = slim(THREE_WIDE, 3)[1], slim(FIVE, 3)[1]
        self.assertTrue(self.told_truth(looks, FIVE, THREE_WIDE, ("slim", 3, order, sets)))
        self.spoilt(
            FIVE,
            THREE_WIDE,
            (
                ("slim", 2, order, sets),
                ("slim", 4, order, sets),
                ("slim", -1, order, sets),
                ("slim", 10, order, sets),
                ("slim", "3", order, sets),
                ("slim", None, order, sets),
                ("slim", (3,), order, sets),
                ("slim", 3, order[:-1], sets),
                ("slim", 3, order + order[:1], sets),
                ("slim", 3, (0,) + tuple(place for place in order if place != 0), sets),
                ("slim", 3, order, ()),
                ("slim", 3, order, sets + (FIVE[0],)),
                ("slim", 3, order, sets + ((4, 0),)),
                ("slim", 3, order, sets + ((9,),)),
                ("slim", 3, order),
                ("slim", 3, order, sets, ()),
                ("wide", 3, order, sets),
                ("slim", order),
            ),
        )
        self.spoilt(THREE_WIDE, FIVE, (("slim", 3, order, sets),))

    def test_k_at_its_ends(self):
        # Here all but k would hold: of more than ten places the width may be above 9.
        eleven, twelve = all_tied(range(11)), all_tied(range(12))
        self.spoilt(twelve, eleven, (("slim", 10, tuple(range(11)), ((),)),))
        self.assertTrue(self.told_truth(looks, eleven, all_tied(range(10)), ("slim", 9, tuple(range(10)), ((),))))
        self.assertTrue(self.told_truth(looks, row_of((0, 1)), lone((0,)), ("slim", 0, (0,), ((),))))
        self.spoilt(row_of((0, 1)), lone((0,)), (("slim", False, (0,), ((),)),))
        self.spoilt(lone((0, 1)), lone(()), (("slim", -1, (), ((),)),))
        self.assertTrue(self.told_truth(looks, ring_of((0, 1, 2)), row_of((0, 1)), ("slim", 1, (0, 1), ((),))))
        self.spoilt(ring_of((0, 1, 2)), row_of((0, 1)), (("slim", True, (0, 1), ((),)),))

    def test_strange_things(self):
        for little, great in ((lone(()), lone(())), (lone((0, 1)), row_of((0, 1))), (row_of((0, 1)), lone((0,)))):
            others = ((), ("never",), ("never", ()), ("comes",), ("of", ()), ("wide", ((),)))
            self.spoilt(little, great, STRANGE + others)
            for word in ("comes", "few", "kind", "slim", "listed", "never"):
                for many in range(6):
                    for strange in STRANGE:
                        self.compare(little, great, (word,) + (strange,) * many)


class TestLooksAtLists(AskedCase):
    def spoilt(self, little, great, lines):
        self.assertFalse(self.told_truth(looks, little, great, ("listed", lines)), (little, great, lines))

    def test_one_way_each(self):
        little, great = beside_each_other(row_of((0, 1)), row_of((2, 3))), star_of(0, (1, 2, 3))
        right = listed(great)
        self.assertTrue(self.told_truth(looks, little, great, ("listed", right)))
        for number, (web, rows) in enumerate(right):
            ahead, behind = right[:number], right[number + 1 :]
            # A line too few, a line that is none, a web that is no right one, rows that are no tuple.
            self.spoilt(little, great, ahead + behind)
            for line in ((web,), (web, rows, rows), None, 0, "", (), (rows, web), (web, None), (web, "")):
                self.spoilt(little, great, ahead + (line,) + behind)
            places, ties = web
            for wrong in ((places,), (places + (-1,), ties), ((9,) + places, ties), (places, ties + ((8, 9),)), None):
                self.spoilt(little, great, ahead + ((wrong, rows),) + behind)
            # A row too few, a row too many.
            self.spoilt(little, great, ahead + ((web, rows + ((0, ()),)),) + behind)
            for spot, (line, laying) in enumerate(rows):
                self.spoilt(little, great, ahead + ((web, rows[:spot] + rows[spot + 1 :]),) + behind)
                # The number of no line, another number, a laying that is none.
                for row in (
                    (len(right), laying),
                    (-1, laying),
                    (line - len(right), laying),
                    (str(line), laying),
                    (None, laying),
                    (line, laying + (0,)),
                    (line, laying + (5,)),
                    (line, None),
                    (line, ("",)),
                    (line,),
                    (line, laying, laying),
                    None,
                    line,
                ):
                    lines = ahead + ((web, rows[:spot] + (row,) + rows[spot + 1 :]),) + behind
                    self.spoilt(little, great, lines)
        for lines in ((), None, 0, "", ((),), (right,), right[1:], right[1:] + right[:1]):
            self.spoilt(little, great, lines)

    def test_a_truth_for_a_number(self):
        web = row_of((0, 1))
        lines = listed(web)
        little = ring_of((0, 1, 2))
        self.assertTrue(self.told_truth(looks, little, web, ("listed", lines)))
        for spot, (number, laying) in enumerate(lines[0][1]):
            if number in (0, 1):
                rows = lines[0][1][:spot] + ((bool(number), laying),) + lines[0][1][spot + 1 :]
                self.spoilt(little, web, ((web, rows),) + lines[1:])
        self.spoilt(little, web, ((((False, True), ((False, True),)), lines[0][1]),) + lines[1:])
        self.spoilt(little, web, (((web[0], ((False, True),)), lines[0][1]),) + lines[1:])

    def test_the_little_one_is_alike_to_a_line(self):
        great = star_of(0, (1, 2, 3))
        lines = listed(great)
        for web, rows in lines:
            self.spoilt(renamed(web, FAR_NAMES[: len(web[0])]), great, lines)

    def test_the_lines_are_of_the_great_web(self):
        little = all_tied(range(5))
        for great in (row_of((0, 1, 2)), ring_of((0, 1, 2)), star_of(0, (1, 2, 3))):
            for other in (row_of((0, 1, 3)), row_of((0, 2, 1)), ring_of((0, 1, 3)), lone((0, 1, 2)), ((), ())):
                self.spoilt(little, great, listed(other))

    def test_lines_that_are_alike_and_lines_to_which_nothing_leads(self):
        little, great = ring_of((0, 1, 2)), row_of((4, 7))
        lines = listed(great)
        self.assertTrue(self.told_truth(looks, little, great, ("listed", lines + lines)))
        # Webs that do not come out of the great one, of more than five places even, with rows of their own.
        more = lines + lines_of_lone(7, len(lines))
        self.assertTrue(self.told_truth(looks, little, great, ("listed", more)))
        self.assertTrue(shows(little, great, ("listed", more)))
        self.spoilt(lone(range(20, 26)), great, more)
        self.spoilt(little, great, lines + lines_of_lone(7, 0))

    def test_a_web_of_more_than_ten_places_is_no_right_one(self):
        little, great = ring_of((0, 1, 2)), ((), ())
        for many in (1, 5, 6, 10, 11, 12):
            lines = ((great, ()),) + lines_of_lone(many, 1)
            self.assertEqual(self.told_truth(looks, little, great, ("listed", lines)), many <= 10)

    def test_a_great_web_of_more_than_five_places(self):
        little = row_of((0, 1))
        for many in (4, 5, 6, 7):
            lines = ("listed", lines_of_lone(many, 0))
            self.assertEqual(self.told_truth(looks, little, lone(range(many)), lines), many <= 5)

    def test_what_is_told_of_each_row_holds(self):
        # Along heaps, too: a row's end is never refuted by a list.
        chance = random.Random(38)
        for web in UNLIKE[:20]:
            row, standing = some_row(web, chance, 5)
            self.assertTrue(looks(standing[-1], web, ("comes", heaps_of_row(web, row))))
            self.spoilt(standing[-1], web, listed(web))
