"""What the tests share: asking twice, looking at what is told, and webs to ask of."""

import itertools
import unittest

# The greatest and the least whole number of a hundred figures.
FARTHEST = 10**100 - 1
FAR = 10**99


def is_plain(value):
    if type(value) is tuple:
        return all(is_plain(each) for each in value)
    return value is None or type(value) in (int, str, bool)


def holds_truth(value):
    if type(value) is tuple:
        return any(holds_truth(each) for each in value)
    return type(value) is bool


def rises(values):
    return all(ahead < behind for ahead, behind in zip(values, values[1:]))


def is_right_web(value):
    """A right web by the words of [6], told without the program's own looker."""
    places, ties = value
    return (
        type(places) is tuple
        and type(ties) is tuple
        and len(places) <= 10
        and all(type(place) is int and place >= 0 for place in places)
        and rises(places)
        and all(type(tie) is tuple and len(tie) == 2 for tie in ties)
        and all(tie[0] in places and tie[1] in places and tie[0] < tie[1] for tie in ties)
        and rises(ties)
    )


def all_tied(names):
    return (tuple(names), tuple(itertools.combinations(names, 2)))


def all_webs(names):
    """Each web whose places are just these names."""
    pairs = tuple(itertools.combinations(names, 2))
    for many in range(len(pairs) + 1):
        for ties in itertools.combinations(pairs, many):
            yield (tuple(names), ties)


def are_tied(web, one, other):
    return (min(one, other), max(one, other)) in web[1]


class WebCase(unittest.TestCase):
    def told(self, function, *arguments):
        """The answer, asked for twice: the same, and of tuples, numbers, texts, truths, None."""
        answer = function(*arguments)
        self.assertTrue(is_plain(answer), answer)
        again = function(*arguments)
        self.assertEqual(repr(answer), repr(again))
        return answer

    def refused(self, error, function, *arguments):
        """Refused twice with this very class."""
        for time in range(2):
            with self.assertRaises(error) as caught:
                function(*arguments)
            self.assertIs(type(caught.exception), error)
