"""[9]: the counts of a web."""

from tests.helper import FAR, FARTHEST, WebCase, all_tied, all_webs, holds_truth
from webdown.webs import counts_of


def ties_that_close_a_ring(web):
    """Laid in one by one, each tie joins two heaps of places or closes a ring."""
    heaps = {place: {place} for place in web[0]}
    closing = 0
    for one, other in web[1]:
        if heaps[one] is heaps[other]:
            closing += 1
        else:
            joined = heaps[one] | heaps[other]
            heaps.update((place, joined) for place in joined)
    return closing


class TestCounts(WebCase):
    def asked(self, web):
        counts = self.told(counts_of, web)
        self.assertFalse(holds_truth(counts), counts)
        return counts

    def test_no_places(self):
        self.assertEqual(self.asked(((), ())), (0, 0, 0))

    def test_no_ties(self):
        for many in range(1, 11):
            with self.subTest(many):
                self.assertEqual(self.asked((tuple(range(many)), ())), (many, 0, 0))

    def test_trees(self):
        row = ((0, 1, 2, 3), ((0, 1), (1, 2), (2, 3)))
        star = ((0, 5, FAR, FARTHEST), ((0, 5), (0, FAR), (0, FARTHEST)))
        two_trees = ((0, 1, 2, 3, 4), ((0, 2), (1, 3), (2, 4)))
        self.assertEqual(self.asked(row), (4, 3, 0))
        self.assertEqual(self.asked(star), (4, 3, 0))
        self.assertEqual(self.asked(two_trees), (5, 3, 0))

    def test_rings(self):
        for many in range(3, 11):
            ties = tuple(sorted([(place, place + 1) for place in range(many - 1)] + [(0, many - 1)]))
            with self.subTest(many):
                self.assertEqual(self.asked((tuple(range(many)), ties)), (many, many, 1))

    def test_several_parts(self):
        two_rings = ((0, 1, 2, 3, 4, 5), ((0, 2), (0, 4), (1, 3), (1, 5), (2, 4), (3, 5)))
        ring_row_and_lone = ((0, 1, 2, 3, 4, 9), ((0, 1), (0, 2), (1, 2), (3, 4)))
        self.assertEqual(self.asked(two_rings), (6, 6, 2))
        self.assertEqual(self.asked(ring_row_and_lone), (6, 4, 1))

    def test_all_tied(self):
        rings = (0, 0, 0, 1, 3, 6, 10, 15, 21, 28, 36)
        for many in range(11):
            with self.subTest(many):
                expected = (many, many * (many - 1) // 2, rings[many])
                self.assertEqual(self.asked(all_tied(range(2, 2 + 3 * many, 3))), expected)

    def test_every_web_of_at_most_five_places(self):
        names = (1, 2, 10, 21, 300)
        for many in range(6):
            for web in all_webs(names[:many]):
                self.assertEqual(self.asked(web), (many, len(web[1]), ties_that_close_a_ring(web)))
