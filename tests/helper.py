"""What the tests share: asking twice, looking at what is told, and webs to ask of."""

import itertools
import unittest

from webdown.steps import stepped, steps_of

# The greatest and the least whole number of a hundred figures.
FARTHEST = 10**100 - 1
FAR = 10**99


def is_plain(value):
    if type(value) is tuple:
        return all(is_plain(each) for each in value)
    return value is None or type(value) in (int, str, bool)


def holds_truth(value):
    if type(value) is tuple:
        return any(holds_truth(each) for each in value)
    return type(value) is bool


def rises(values):
    return all(ahead < behind for ahead, behind in zip(values, values[1:]))


def is_right_web(value):
    """A right web by the words of [6], told without the program's own looker."""
    places, ties = value
    return (
        type(places) is tuple
        and type(ties) is tuple
        and len(places) <= 10
        and all(type(place) is int and place >= 0 for place in places)
        and rises(places)
        and all(type(tie) is tuple and len(tie) == 2 for tie in ties)
        and all(tie[0] in places and tie[1] in places and tie[0] < tie[1] for tie in ties)
        and rises(ties)
    )


def all_tied(names):
    return (tuple(names), tuple(itertools.combinations(names, 2)))


def all_webs(names):
    """Each web whose places are just these names."""
    pairs = tuple(itertools.combinations(names, 2))
    for many in range(len(pairs) + 1):
        for ties in itertools.combinations(pairs, many):
            yield (tuple(names), ties)


def are_tied(web, one, other):
    return (min(one, other), max(one, other)) in web[1]


def hangs_together(web, chosen):
    """By the words of [8]: not empty, and from each to each by ties between the chosen ones."""
    gets_to = {(one, other): one == other or are_tied(web, one, other) for one in chosen for other in chosen}
    for between, one, other in itertools.product(chosen, repeat=3):
        if gets_to[one, between] and gets_to[between, other]:
            gets_to[one, other] = True
    return len(chosen) > 0 and all(gets_to.values())


def made_web(places, pairs):
    return (tuple(sorted(set(places))), tuple(sorted({tuple(sorted(pair)) for pair in pairs})))


def lone(names):
    return made_web(names, ())


def row_of(names):
    """Tied in this order, one with the next."""
    return made_web(names, zip(names, names[1:]))


def ring_of(names):
    return made_web(names, list(zip(names, names[1:])) + [(names[-1], names[0])])


def star_of(middle, others):
    return made_web((middle, *others), [(middle, other) for other in others])


def across(ones, others):
    """Each of the one side tied with each of the other side."""
    return made_web((*ones, *others), itertools.product(ones, others))


def beside_each_other(*webs):
    """One web with these as its parts, or sets of its parts."""
    return made_web(sum((web[0] for web in webs), ()), sum((web[1] for web in webs), ()))


def renamed(web, names):
    """The same web under other names, given in the order of its places."""
    new = dict(zip(web[0], names))
    return made_web(new.values(), [(new[one], new[other]) for one, other in web[1]])


def prism(names):
    """Two rings of three, tied one to one."""
    ones, others = names[:3], names[3:]
    rings = ring_of(ones)[1] + ring_of(others)[1]
    return made_web(names, rings + tuple(zip(ones, others)))


FAR_NAMES = (0, 7, 10, FAR, FAR + 1, FARTHEST - 1, FARTHEST)

SAMPLES = (
    lone(()),
    lone((3,)),
    lone((0, 2, 9)),
    lone(tuple(range(10))),
    row_of((0, 1)),
    row_of((4, 1, 30, 2)),
    star_of(5, (0, 2, 9, 11)),
    made_web((0, 1, 2, 3, 4, 5, 6), ((0, 1), (0, 2), (1, 3), (1, 4), (2, 5), (5, 6))),
    ring_of((0, 1, 2)),
    ring_of((8, 3, 20, 1, 9)),
    ring_of(tuple(range(10))),
    made_web((0, 1, 2, 3), ((0, 1), (0, 2), (0, 3), (1, 2), (1, 3))),
    beside_each_other(ring_of((0, 5, 7)), ring_of((1, 2, 8)), row_of((3, 6)), lone((9,))),
    beside_each_other(all_tied((0, 2, 4, 6)), star_of(3, (1, 5, 7))),
    across((0, 1, 2), (3, 4, 5)),
    prism((0, 1, 2, 3, 4, 5)),
    all_tied((0, 3, 5, 8, 13)),
    all_tied(tuple(range(10))),
    made_web(FAR_NAMES, ((0, 7), (7, FAR), (FAR, FARTHEST), (0, FARTHEST), (7, FARTHEST), (FAR + 1, FARTHEST - 1))),
    renamed(all_tied((0, 1, 2, 3)), FAR_NAMES[3:]),
)


def some_row(web, chance, many):
    """A row of at most so many steps, and the webs that stand along it."""
    row, standing = [], [web]
    while len(row) < many and steps_of(standing[-1]):
        step = chance.choice(steps_of(standing[-1]))
        if step[0] == "draw" and chance.random() < 0.5:
            step = ("draw", step[2], step[1])
        row.append(step)
        standing.append(stepped(standing[-1], step))
    return tuple(row), standing


# Rings and single ties that hang on one another like a chain, and a lone place.
CHAIN = beside_each_other(
    ring_of((0, 1, 2)), row_of((2, 9, 3)), ring_of((3, 4, 5)), ring_of((5, 6, 7)), lone((8,))
)

# The bars as [29] writes them.
BARS = {
    "bare": (row_of((0, 1)),),
    "rows": (ring_of((0, 1, 2)), star_of(0, (1, 2, 3))),
    "trees": (ring_of((0, 1, 2)),),
    "rings": (((0, 1, 2, 3), ((0, 1), (0, 2), (0, 3), (1, 2), (1, 3))),),
    "land": (all_tied(range(4)), across((0, 1), (2, 3, 4))),
    "flat": (all_tied(range(5)), across((0, 1, 2), (3, 4, 5))),
}

RIGHT_ROW = (all_tied((0, 3, 5, 8, 13)), (("tie", 0, 3), ("draw", 8, 5), ("place", 13), ("tie", 3, 8)))


def wrong_rows():
    """Webs with rows that they can't go: the wrong step at the start, in the middle, at the end."""
    web, right = RIGHT_ROW
    for wrong in (("tie", 3, 0), ("place", 1), ("draw", 0, 0), ("draw", 0, FAR), ("draw", FAR, 0), ("tie", 0, FAR)):
        for spot in range(5):
            yield (web, right[:spot] + (wrong,) + right[spot:])
    ring = ring_of((0, 1, 2, 3, 4))
    gone = (("place", 0), ("draw", 1, 0), ("draw", 0, 1), ("tie", 0, 1))
    for first, late in (
        (("draw", 4, 0), gone + (("draw", 4, 0), ("tie", 0, 4))),
        (("place", 0), gone),
        (("tie", 0, 1), gone[1:]),
    ):
        for step in late:
            yield (ring, (first, step))
    # No step can be made twice.
    for web in SAMPLES:
        for step in steps_of(web):
            yield (web, (step, step))
    yield (ring_of((0, 1, 2)), (("tie", 1, 2), ("place", True)))
    yield (lone((0,)), (("place", 0), ("place", 0)))
    yield (lone(()), (("place", 0),))


def are_holding_heaps(little, great, heaps):
    """By the words of [13]."""
    if len(heaps) != len(little[0]):
        return False
    for heap in heaps:
        if list(heap) != sorted(set(heap)) or not set(heap) <= set(great[0]) or not hangs_together(great, heap):
            return False
    if any(set(one) & set(other) for one, other in itertools.combinations(heaps, 2)):
        return False
    heap_of = dict(zip(little[0], heaps))
    return all(
        any(are_tied(great, one, other) for one in heap_of[a] for other in heap_of[b]) for a, b in little[1]
    )


def is_laying(one, other, laying):
    """By the words of [17]."""
    if len(laying) != len(one[0]) or sorted(laying) != list(other[0]):
        return False
    lies_on = dict(zip(one[0], laying))
    return all(
        are_tied(one, a, b) == are_tied(other, lies_on[a], lies_on[b]) for a, b in itertools.combinations(one[0], 2)
    )


# Tuples of other things than a looker asks for.
STRANGE = (
    None,
    "",
    "01",
    0,
    (None,),
    ("",),
    ("01",),
    ((None,),),
    (("",),),
    ((),),
    (((),),),
    ((), ()),
    (-1,),
    ((-1,),),
    (True,),
    ((False, True),),
    ((0, None),),
    ((0, "1"),),
    ((0, (1,)),),
    (0, "1", None),
)


class WebCase(unittest.TestCase):
    def told(self, function, *arguments):
        """The answer, asked for twice: the same, and of tuples, numbers, texts, truths, None."""
        answer = function(*arguments)
        self.assertTrue(is_plain(answer), answer)
        again = function(*arguments)
        self.assertEqual(repr(answer), repr(again))
        return answer

    def told_tuple(self, function, *arguments):
        """A tuple in which no truth stands for a number."""
        answer = self.told(function, *arguments)
        self.assertIs(type(answer), tuple)
        self.assertFalse(holds_truth(answer), answer)
        return answer

    def told_web(self, function, *arguments):
        answer = self.told_tuple(function, *arguments)
        self.assertTrue(is_right_web(answer), answer)
        return answer

    def told_truth(self, function, *arguments):
        answer = self.told(function, *arguments)
        self.assertIs(type(answer), bool)
        return answer

    def refused(self, error, function, *arguments):
        """Refused twice with this very class."""
        for time in range(2):
            with self.assertRaises(error) as caught:
                function(*arguments)
            self.assertIs(type(caught.exception), error)


class MakingCase(WebCase):
    """Looks at a kind: `shows` is its looker, `made` finds a making or tells None."""

    def spoilt(self, shows, web, makings):
        for making in makings:
            with self.subTest(web=web, making=making):
                self.assertFalse(self.told_truth(shows, web, making))

    def look_at(self, shows, made, web, is_of):
        making = self.told(made, web)
        self.assertEqual(making is not None, is_of, (web, making))
        if is_of:
            self.assertFalse(holds_truth(making), making)
            self.assertTrue(self.told_truth(shows, web, making), (web, making))
