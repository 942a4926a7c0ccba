"""Inlays, which [17] and [19] need: unlike places on unlike places, tied ones on tied ones."""

import itertools

from tests.helper import FARTHEST, SAMPLES, WebCase
from tests.helper import across, all_tied, all_webs, are_tied, beside_each_other, lone, prism, renamed, ring_of, row_of
from webdown.inlays import inlaid


def is_inlay(little, web, lying):
    lies_on = dict(zip(little[0], lying))
    return (
        len(lying) == len(little[0])
        and set(lying) <= set(web[0])
        and len(set(lying)) == len(lying)
        and all(are_tied(web, lies_on[a], lies_on[b]) for a, b in little[1])
    )


class TestInlaid(WebCase):
    def asked(self, little, web):
        lying = self.told(inlaid, little, web)
        if lying is not None:
            self.assertTrue(is_inlay(little, web, lying), (little, web, lying))
        return lying is not None

    def test_all_webs_of_few_places(self):
        for web in all_webs((1, 2, 10, FARTHEST)):
            for many in range(5):
                for little in all_webs((0, 3, 4, 5)[:many]):
                    orders = itertools.permutations(web[0], many)
                    self.assertEqual(self.asked(little, web), any(is_inlay(little, web, order) for order in orders))

    def test_each_web_in_itself_and_among_all_tied(self):
        for web in SAMPLES:
            self.assertTrue(self.asked(web, web))
            self.assertTrue(self.asked(web, renamed(web, range(40, 40 - len(web[0]), -1))))
            self.assertTrue(self.asked(web, all_tied(range(20, 30))))

    def test_none(self):
        self.assertFalse(self.asked(ring_of((0, 1, 2)), across(range(5), range(5, 10))))
        self.assertFalse(self.asked(prism(range(6)), across((0, 1, 2), (3, 4, 5))))
        self.assertFalse(self.asked(ring_of(range(6)), beside_each_other(ring_of((0, 1, 2)), ring_of((3, 4, 5)))))
        self.assertFalse(self.asked(row_of((0, 1, 2)), row_of((0, 1))))
        self.assertFalse(self.asked(lone(range(10)), all_tied(range(9))))
