"""Blocks, which [24] and [27] need: two ties are in one block just where they are one, or a ring has both."""

import itertools

from tests.helper import CHAIN, FAR, SAMPLES, WebCase
from tests.helper import all_tied, all_webs, are_tied, beside_each_other, is_right_web, lone, ring_of, row_of
from webdown.blocks import blocks_of


def rings_in(web):
    """The ties of each ring that lies in the web, whatever other ties its places have."""
    told = set()
    for many in range(3, len(web[0]) + 1):
        for order in itertools.permutations(web[0], many):
            if all(are_tied(web, order[k - 1], order[k]) for k in range(many)):
                told.add(frozenset(ring_of(order)[1]))
    return told


def blocks_by_rings(web):
    rings = rings_in(web)
    told = set()
    for tie in web[1]:
        told.add(frozenset({tie}.union(*[ring for ring in rings if tie in ring])))
    return told


class TestBlocks(WebCase):
    def asked(self, web):
        blocks = self.told_tuple(blocks_of, web)
        self.assertEqual(sorted(tie for block in blocks for tie in block[1]), list(web[1]))
        for number, block in enumerate(blocks):
            self.assertTrue(is_right_web(block), block)
            self.assertEqual(block[0], tuple(sorted({place for tie in block[1] for place in tie})))
            ahead = {place for other in blocks[:number] for place in other[0]}
            self.assertLessEqual(len(ahead & set(block[0])), 1, blocks)
        return blocks

    def test_few_places(self):
        for many in range(6):
            for web in all_webs((1, 2, 10, 21, 300)[:many]):
                self.assertEqual({frozenset(block[1]) for block in self.asked(web)}, blocks_by_rings(web))

    def test_samples(self):
        for web in SAMPLES:
            self.asked(web)

    def test_no_ties(self):
        self.assertEqual(self.asked(((), ())), ())
        self.assertEqual(self.asked(lone(range(10))), ())

    def test_one_block(self):
        for web in (row_of((3, FAR)), ring_of(range(10)), all_tied(range(10))):
            self.assertEqual(self.asked(web), (web,))

    def test_rings_on_a_row(self):
        blocks = self.asked(CHAIN)
        self.assertEqual(sorted(block[0] for block in blocks), [(0, 1, 2), (2, 9), (3, 4, 5), (3, 9), (5, 6, 7)])

    def test_several_parts(self):
        web = beside_each_other(ring_of((0, 4, 8)), row_of((1, 5, 9)), lone((3,)))
        self.assertEqual(sorted(block[0] for block in self.asked(web)), [(0, 4, 8), (1, 5), (5, 9)])
