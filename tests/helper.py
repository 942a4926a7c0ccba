"""What the tests share: asking twice, looking at what is told, and webs to ask of."""

import functools
import itertools
import unittest

from webdown.comes import comes_out
from webdown.steps import stepped, steps_of
from webdown.webs import parts_of

# The greatest and the least whole number of a hundred figures.
FARTHEST = 10**100 - 1
FAR = 10**99


def is_plain(value):
    if type(value) is tuple:
        return all(is_plain(each) for each in value)
    return value is None or type(value) in (int, str, bool)


def holds_truth(value):
    if type(value) is tuple:
        return any(holds_truth(each) for each in value)
    return type(value) is bool


def rises(values):
    return all(ahead < behind for ahead, behind in zip(values, values[1:]))


def is_right_web(value):
    """A right web by the words of [6], told without the program's own looker."""
    places, ties = value
    return (
        type(places) is tuple
        and type(ties) is tuple
        and len(places) <= 10
        and all(type(place) is int and place >= 0 for place in places)
        and rises(places)
        and all(type(tie) is tuple and len(tie) == 2 for tie in ties)
        and all(tie[0] in places and tie[1] in places and tie[0] < tie[1] for tie in ties)
        and rises(ties)
    )


def all_tied(names):
    return (tuple(names), tuple(itertools.combinations(names, 2)))


def all_webs(names):
    """Each web whose places are just these names."""
    pairs = tuple(itertools.combinations(names, 2))
    for many in range(len(pairs) + 1):
        for ties in itertools.combinations(pairs, many):
            yield (tuple(names), ties)


def are_tied(web, one, other):
    return (min(one, other), max(one, other)) in web[1]


def hangs_together(web, chosen):
    """By the words of [8]: not empty, and from each to each by ties between the chosen ones."""
    gets_to = {(one, other): one == other or are_tied(web, one, other) for one in chosen for other in chosen}
    for between, one, other in itertools.product(chosen, repeat=3):
        if gets_to[one, between] and gets_to[between, other]:
            gets_to[one, other] = True
    return len(chosen) > 0 and all(gets_to.values())


def made_web(places, pairs):
    return (tuple(sorted(set(places))), tuple(sorted({tuple(sorted(pair)) for pair in pairs})))


def lone(names):
    return made_web(names, ())


def row_of(names):
    """Tied in this order, one with the next."""
    return made_web(names, zip(names, names[1:]))


def ring_of(names):
    return made_web(names, list(zip(names, names[1:])) + [(names[-1], names[0])])


def star_of(middle, others):
    return made_web((middle, *others), [(middle, other) for other in others])


def across(ones, others):
    """Each of the one side tied with each of the other side."""
    return made_web((*ones, *others), itertools.product(ones, others))


def beside_each_other(*webs):
    """One web with these as its parts, or sets of its parts."""
    return made_web(sum((web[0] for web in webs), ()), sum((web[1] for web in webs), ()))


def renamed(web, names):
    """The same web under other names, given in the order of its places."""
    new = dict(zip(web[0], names))
    return made_web(new.values(), [(new[one], new[other]) for one, other in web[1]])


def prism(names):
    """Two rings of three, tied one to one."""
    ones, others = names[:3], names[3:]
    rings = ring_of(ones)[1] + ring_of(others)[1]
    return made_web(names, rings + tuple(zip(ones, others)))


def wheel(hub, rim):
    return beside_each_other(star_of(hub, rim), ring_of(rim))


FAR_NAMES = (0, 7, 10, FAR, FAR + 1, FARTHEST - 1, FARTHEST)

SAMPLES = (
    lone(()),
    lone((3,)),
    lone((0, 2, 9)),
    lone(tuple(range(10))),
    row_of((0, 1)),
    row_of((4, 1, 30, 2)),
    star_of(5, (0, 2, 9, 11)),
    made_web((0, 1, 2, 3, 4, 5, 6), ((0, 1), (0, 2), (1, 3), (1, 4), (2, 5), (5, 6))),
    ring_of((0, 1, 2)),
    ring_of((8, 3, 20, 1, 9)),
    ring_of(tuple(range(10))),
    made_web((0, 1, 2, 3), ((0, 1), (0, 2), (0, 3), (1, 2), (1, 3))),
    beside_each_other(ring_of((0, 5, 7)), ring_of((1, 2, 8)), row_of((3, 6)), lone((9,))),
    beside_each_other(all_tied((0, 2, 4, 6)), star_of(3, (1, 5, 7))),
    across((0, 1, 2), (3, 4, 5)),
    prism((0, 1, 2, 3, 4, 5)),
    wheel(6, (0, 8, 2, 5, 3, 11)),
    all_tied((0, 3, 5, 8, 13)),
    all_tied(tuple(range(10))),
    made_web(FAR_NAMES, ((0, 7), (7, FAR), (FAR, FARTHEST), (0, FARTHEST), (7, FARTHEST), (FAR + 1, FARTHEST - 1))),
    renamed(all_tied((0, 1, 2, 3)), FAR_NAMES[3:]),
)


def some_row(web, chance, many):
    """A row of at most so many steps, and the webs that stand along it."""
    row, standing = [], [web]
    while len(row) < many and steps_of(standing[-1]):
        step = chance.choice(steps_of(standing[-1]))
        if step[0] == "draw" and chance.random() < 0.5:
            step = ("draw", step[2], step[1])
        row.append(step)
        standing.append(stepped(standing[-1], step))
    return tuple(row), standing


# Rings and single ties that hang on one another like a chain, and a lone place.
CHAIN = beside_each_other(
    ring_of((0, 1, 2)), row_of((2, 9, 3)), ring_of((3, 4, 5)), ring_of((5, 6, 7)), lone((8,))
)

# The kinds in the order of [20], and their bars as [29] writes them.
BARS = {
    "bare": (row_of((0, 1)),),
    "rows": (ring_of((0, 1, 2)), star_of(0, (1, 2, 3))),
    "trees": (ring_of((0, 1, 2)),),
    "rings": (((0, 1, 2, 3), ((0, 1), (0, 2), (0, 3), (1, 2), (1, 3))),),
    "land": (all_tied(range(4)), across((0, 1), (2, 3, 4))),
    "twos": (all_tied(range(4)),),
    "flat": (all_tied(range(5)), across((0, 1, 2), (3, 4, 5))),
}

# Asked by many tests of the same webs; what it tells has tests of its own.
some_heaps = functools.lru_cache(maxsize=None)(comes_out)


def is_of_kind(kind, web):
    """By the end of [29]: just where no bar of the kind comes out."""
    return all(some_heaps(bar, web) is None for bar in BARS[kind])


def few_placed_webs(most):
    """All webs of at most so many places, at most five, under some names."""
    return [web for many in range(most + 1) for web in all_webs((1, 2, 10, 21, FARTHEST)[:many])]


RIGHT_ROW = (all_tied((0, 3, 5, 8, 13)), (("tie", 0, 3), ("draw", 8, 5), ("place", 13), ("tie", 3, 8)))


def wrong_rows():
    """Webs with rows that they can't go: the wrong step at the start, in the middle, at the end."""
    web, right = RIGHT_ROW
    for wrong in (("tie", 3, 0), ("place", 1), ("draw", 0, 0), ("draw", 0, FAR), ("draw", FAR, 0), ("tie", 0, FAR)):
        for spot in range(5):
            yield (web, right[:spot] + (wrong,) + right[spot:])
    ring = ring_of((0, 1, 2, 3, 4))
    gone = (("place", 0), ("draw", 1, 0), ("draw", 0, 1), ("tie", 0, 1))
    for first, late in (
        (("draw", 4, 0), gone + (("draw", 4, 0), ("tie", 0, 4))),
        (("place", 0), gone),
        (("tie", 0, 1), gone[1:]),
    ):
        for step in late:
            yield (ring, (first, step))
    # No step can be made twice.
    for web in SAMPLES:
        for step in steps_of(web):
            yield (web, (step, step))
    yield (ring_of((0, 1, 2)), (("tie", 1, 2), ("place", True)))
    yield (lone((0,)), (("place", 0), ("place", 0)))
    yield (lone(()), (("place", 0),))


def are_holding_heaps(little, great, heaps):
    """By the words of [13]."""
    if len(heaps) != len(little[0]):
        return False
    for heap in heaps:
        if list(heap) != sorted(set(heap)) or not set(heap) <= set(great[0]) or not hangs_together(great, heap):
            return False
    if any(set(one) & set(other) for one, other in itertools.combinations(heaps, 2)):
        return False
    heap_of = dict(zip(little[0], heaps))
    return all(
        any(are_tied(great, one, other) for one in heap_of[a] for other in heap_of[b]) for a, b in little[1]
    )


def is_laying(one, other, laying):
    """By the words of [17]."""
    if len(laying) != len(one[0]) or sorted(laying) != list(other[0]):
        return False
    lies_on = dict(zip(one[0], laying))
    return all(
        are_tied(one, a, b) == are_tied(other, lies_on[a], lies_on[b]) for a, b in itertools.combinations(one[0], 2)
    )


def pairs_of(row):
    return [tuple(sorted(pair)) for pair in zip(row, row[1:])]


def is_rows(web, making):
    """By the words of [22], of a tuple of tuples of whole numbers."""
    if any(len(row) == 0 for row in making) or sorted(sum(making, ())) != list(web[0]):
        return False
    return sorted(pair for row in making for pair in pairs_of(row)) == list(web[1])


def is_trees(web, making):
    """By the words of [23], of a tuple of whole numbers."""
    if sorted(making) != list(web[0]):
        return False
    return all(sum(are_tied(web, place, ahead) for ahead in making[:k]) <= 1 for k, place in enumerate(making))


def is_rings(web, making):
    """By the words of [24], of a tuple of tuples of whole numbers."""
    ties, ahead = [], set()
    for piece in making:
        if len(piece) < 2 or len(set(piece)) < len(piece) or not set(piece) <= set(web[0]):
            return False
        ties += pairs_of(piece) if len(piece) == 2 else pairs_of(piece + piece[:1])
        if len(ahead & set(piece)) > 1:
            return False
        ahead |= set(piece)
    return len(ties) == len(set(ties)) and set(ties) == set(web[1])


def is_land(web, order):
    """By the words of [26]."""
    fours = itertools.combinations(order, 4)
    return not any(are_tied(web, a, c) and are_tied(web, b, d) for a, b, c, d in fours)


def is_flat(web, turns):
    """By the words of [27]: for each part with a tie, places less ties and the lands added are 2."""
    turn_of = dict(zip(web[0], turns))
    for part in parts_of(web):
        ways = {(a, b) for a in part for b in part if are_tied(web, a, b)}
        lands, left = 0, set(ways)
        while left:
            lands += 1
            a, b = min(left)
            while (a, b) in left:
                left.remove((a, b))
                turn = turn_of[b]
                a, b = b, (turn + turn)[turn.index(a) + 1]
        if ways and len(part) - len(ways) // 2 + lands != 2:
            return False
    return True


def near_by_ways(web, gone, place):
    """By the words of [31]: all that is tied with the place, or with a gone one to which some way of gone ones gets."""
    found, passed = set(), {place}

    def go_on(spot):
        for other in web[0]:
            if are_tied(web, spot, other) and other not in passed:
                if other in gone:
                    passed.add(other)
                    go_on(other)
                else:
                    found.add(other)

    go_on(place)
    return tuple(sorted(found))


def is_order_of_width(web, k, order):
    """By the words of [31], of a tuple of whole numbers."""
    if sorted(order) != list(web[0]):
        return False
    return all(len(near_by_ways(web, order[:spot], place)) <= k for spot, place in enumerate(order))


def is_wide_paper(web, k, sets):
    """By the words of [32], of a tuple of tuples of whole numbers."""
    if not all(rises(each) and set(each) <= set(web[0]) for each in sets) or () not in sets or web[0] in sets:
        return False
    return all(
        tuple(sorted(gone + (place,))) in sets
        for gone in sets
        for place in web[0]
        if place not in gone and len(near_by_ways(web, gone, place)) <= k
    )


def are_numbers(value):
    return type(value) is tuple and all(type(each) is int for each in value)


def are_tuples_of_numbers(value):
    return type(value) is tuple and all(are_numbers(each) for each in value)


def is_making(kind, web, making):
    """By the words of [21] to [27], of whatever tuple."""
    if kind == "bare":
        return web[1] == () and making == ()
    if kind in ("rows", "rings"):
        return are_tuples_of_numbers(making) and (is_rows if kind == "rows" else is_rings)(web, making)
    if kind == "flat":
        near = [[other for other in web[0] if are_tied(web, place, other)] for place in web[0]]
        are_turns = are_tuples_of_numbers(making) and [sorted(turn) for turn in making] == near
        return are_turns and is_flat(web, making)
    if not are_numbers(making) or sorted(making) != list(web[0]):
        return False
    if kind == "twos":
        return is_order_of_width(web, 2, making)
    return (is_trees if kind == "trees" else is_land)(web, making)


def spoilings(value):
    """The same spoilt in one way each, at each spot within it; some may be right in another way."""
    if type(value) is int:
        return [None, "", str(value), (), (value,), True, False, -1, value + 1, FARTHEST]
    if type(value) is not tuple:
        return [None, "", "other", 0, (), (value,), True]
    spoilt = [value[::-1], value + value, (value,)]
    for spot, each in enumerate(value):
        ahead, behind = value[:spot], value[spot + 1 :]
        spoilt += [ahead + behind, ahead + (each, each) + behind, value + (each,), (each,) + value]
        spoilt += [ahead + (inner,) + behind for inner in spoilings(each) + [None, "", 0]]
        for other in range(spot):
            spoilt.append(value[:other] + (each,) + value[other + 1 : spot] + (value[other],) + behind)
    for strange in (None, "", "1", 0, -1, FAR, True, (), (0,), ((),)):
        spoilt += [value + (strange,), (strange,) + value]
    return spoilt


# Tuples of other things than a looker asks for.
STRANGE = (
    None,
    "",
    "01",
    0,
    (None,),
    ("",),
    ("01",),
    ((None,),),
    (("",),),
    ((),),
    (((),),),
    ((), ()),
    (-1,),
    ((-1,),),
    (True,),
    ((False, True),),
    ((0, None),),
    ((0, "1"),),
    ((0, (1,)),),
    (0, "1", None),
)


class WebCase(unittest.TestCase):
    def told(self, function, *arguments):
        """The answer, asked for twice: the same, and of tuples, numbers, texts, truths, None."""
        answer = function(*arguments)
        self.assertTrue(is_plain(answer), answer)
        again = function(*arguments)
        self.assertEqual(repr(answer), repr(again))
        return answer

    def told_tuple(self, function, *arguments):
        """A tuple in which no truth stands for a number."""
        answer = self.told(function, *arguments)
        self.assertIs(type(answer), tuple)
        self.assertFalse(holds_truth(answer), answer)
        return answer

    def told_web(self, function, *arguments):
        answer = self.told_tuple(function, *arguments)
        self.assertTrue(is_right_web(answer), answer)
        return answer

    def told_truth(self, function, *arguments):
        answer = self.told(function, *arguments)
        self.assertIs(type(answer), bool)
        return answer

    def refused(self, error, function, *arguments):
        """Refused twice with this very class."""
        for time in range(2):
            with self.assertRaises(error) as caught:
                function(*arguments)
            self.assertIs(type(caught.exception), error)


class MakingCase(WebCase):
    """Looks at a kind: `shows` is its looker, `made` finds a making or tells None."""

    def spoilt(self, shows, web, makings):
        for making in makings:
            with self.subTest(web=web, making=making):
                self.assertFalse(self.told_truth(shows, web, making))

    def look_at(self, shows, made, web, is_of):
        making = self.told(made, web)
        self.assertEqual(making is not None, is_of, (web, making))
        if is_of:
            self.assertFalse(holds_truth(making), making)
            self.assertTrue(self.told_truth(shows, web, making), (web, making))
