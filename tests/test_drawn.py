"""[26], [27]: a making of land, and of flat, is found wherever there is one."""

import itertools
import random

from tests.helper import BARS, CHAIN, SAMPLES, MakingCase
from tests.helper import across, all_tied, beside_each_other, few_placed_webs, is_of_kind, lone, made_web, renamed
from tests.helper import ring_of, row_of, star_of
from webdown.drawn import flat_making, land_making
from webdown.rounds import shows_flat, shows_land

KINDS = (("land", shows_land, land_making), ("flat", shows_flat, flat_making))


def full_drawing(many, chance):
    """A flat web to which no tie can be added: each new place is laid into a land of three."""
    lands, ties = [(0, 1, 2), (0, 1, 2)], [(0, 1), (0, 2), (1, 2)]
    for place in range(3, many):
        land = lands.pop(chance.randrange(len(lands)))
        ties += [(corner, place) for corner in land]
        lands += [pair + (place,) for pair in itertools.combinations(land, 2)]
    return made_web(range(many), ties)


class TestMakings(MakingCase):
    def look_at_both(self, web):
        for kind, shows, made in KINDS:
            self.look_at(shows, made, web, is_of_kind(kind, web))

    def test_all_webs_of_few_places(self):
        for web in few_placed_webs(5):
            self.look_at_both(web)

    def test_samples(self):
        for web in SAMPLES + (CHAIN, ((), ())):
            self.look_at_both(web)

    def test_flat_ones(self):
        chance = random.Random(27)
        for many in (6, 8, 10):
            for time in range(5):
                places, ties = full_drawing(many, chance)
                names = chance.sample(range(40), many)
                self.look_at(shows_flat, flat_making, renamed((places, ties), names), True)
                some = made_web(places, chance.sample(ties, len(ties) * 2 // 3))
                self.look_at(shows_flat, flat_making, renamed(some, names), True)
        self.look_at(shows_flat, flat_making, beside_each_other(ring_of(range(8)), across((8, 9), range(8))), True)

    def test_one_tie_too_many(self):
        chance = random.Random(28)
        for many in (6, 8, 10):
            places, ties = full_drawing(many, chance)
            for tie in itertools.combinations(places, 2):
                if tie not in ties:
                    self.look_at(shows_flat, flat_making, made_web(places, ties + (tie,)), False)

    def test_webs_by_chance(self):
        chance = random.Random(26)
        for time in range(60):
            many = chance.randint(6, 9)
            pairs = list(itertools.combinations(range(many), 2))
            self.look_at_both(made_web(range(many), chance.sample(pairs, chance.randint(many - 2, 2 * many - 2))))

    def test_land_of_ten_places(self):
        order = (3, 8, 0, 4, 5, 7, 1, 9, 2, 6)
        web = beside_each_other(ring_of(order), star_of(3, (0, 4, 5, 7, 1, 9, 2)))
        self.look_at(shows_land, land_making, web, True)
        self.look_at(shows_land, land_making, beside_each_other(web, row_of((8, 4))), False)
        for many in range(11):
            self.look_at(shows_land, land_making, lone(range(many)), True)
        self.look_at(shows_land, land_making, row_of(order), True)
        self.look_at(shows_land, land_making, beside_each_other(ring_of(range(5)), ring_of(range(5, 10))), True)
        self.look_at(shows_land, land_making, all_tied(range(10)), False)

    def test_the_bars_themselves(self):
        for kind, shows, made in KINDS:
            for bar in BARS[kind]:
                self.assertIsNone(self.told(made, bar))
