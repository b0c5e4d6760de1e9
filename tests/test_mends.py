import itertools
import random
import unittest

from meetrow.beats import behind
from meetrow.errors import TooMany
from meetrow.mends import mend
from meetrow.rests import is_at_rest
from meetrow.towns import Town
from tests import brute
from tests.test_rests import all_stands, small
from tests.test_towns import path


def carried(stand, other):
    """The sum of the ways from the spots of one stand to those of another one."""
    return sum(side != beside for one, two in zip(stand, other) for side, beside in zip(one, two))


class Case(unittest.TestCase):
    def same(self, told, due):
        self.assertEqual(brute.shape(told), brute.shape(due))

    def check(self, town, spots, stand, ring):
        before = list(stand)
        told = mend(town, stand, ring=ring)
        self.assertEqual(stand, before)
        self.assertIsInstance(told, tuple)
        total, mended = told
        self.assertIsInstance(mended, list)
        self.assertEqual(len(mended), len(stand))
        self.assertTrue(all(town.is_spot(spot) for spot in mended))
        self.assertEqual(brute.beat(mended, ring), mended)
        self.same(total, carried(stand, mended))
        self.same(mend(town, stand, ring=ring), told)
        if not ring:
            self.same(mend(town, stand), told)
        return total

    def least(self, spots, stand, ring):
        return min(carried(stand, other) for other in all_stands(spots, len(stand)) if brute.beat(other, ring) == other)


class Mends(Case):
    def test_a_row_and_a_ring(self):
        town = Town(1, [])
        self.same(mend(town, [(1,), (-1,), (1,)])[0], 1)
        self.same(mend(town, [(1,), (-1,), (1,), (-1,)], ring=True)[0], 2)
        self.same(mend(town, [(1,), (1,), (-1,), (-1,)], ring=True), (0, [(1,), (1,), (-1,), (-1,)]))
        self.same(mend(Town(2, []), [(1, 2), (-1, -2), (1, 2), (1, 2)])[0], 2)
        self.same(mend(town, [(-1,), (1,), (-1,), (1,), (1,)])[0], 1)
        # No spot of this path lies between others but by the streets: the middle one goes along two of them.
        self.same(mend(Town(3, path(3)), [(1, 2, 3), (1, -2, -3), (1, 2, 3)])[0], 2)

    def test_all_small_rows(self):
        for town, spots in small(171, 12, 4):
            for folk in range(1, 5):
                for stand in all_stands(spots, folk):
                    self.same(self.check(town, spots, stand, False), self.least(spots, stand, False))

    def test_all_small_rings(self):
        for town, spots in small(172, 8, 4):
            for folk in range(3, 5):
                for stand in all_stands(spots, folk):
                    self.same(self.check(town, spots, stand, True), self.least(spots, stand, True))

    def test_some_larger_ones(self):
        chance = random.Random(173)
        cases = [(Town(3, []), 3, True), (Town(3, []), 4, False), (Town(2, []), 6, True), (Town(2, []), 6, False),
                 (Town(3, path(3)), 6, True), (Town(3, path(3)), 6, False), (Town(7, path(7)), 4, True),
                 (Town(3, [(1, 2)]), 4, True), (Town(4, []), 3, False)]
        for town, folk, ring in cases:
            spots = brute.let(len(town), town.bans())
            resting = [other for other in all_stands(spots, folk) if brute.beat(other, ring) == other]
            for _ in range(6):
                stand = [chance.choice(spots) for _ in range(folk)]
                self.same(self.check(town, spots, stand, ring), min(carried(stand, other) for other in resting))

    def test_what_is_at_rest_stays(self):
        for _, _, stand, ring in brute.stands(174, 80, 7):
            last = brute.beats(stand, 10, ring)[-1]
            town = Town(len(stand[0]), [])
            if brute.beat(last, ring) == last and len(stand[0]) <= (3 if ring else 4):
                self.same(mend(town, last, ring=ring), (0, last))

    def test_sixty_folk(self):
        chance = random.Random(175)
        for town in (Town(4, []), Town(15, path(15))):
            spots = town.spots()
            self.assertEqual(len(spots), 16)
            stand = [chance.choice(spots) for _ in range(60)]
            total = self.check(town, spots, stand, False)
            self.assertLessEqual(total, carried(stand, behind(stand, 60)))
            self.assertTrue(is_at_rest(mend(town, stand)[1]))

    def test_each_cut_is_mended_by_itself(self):
        """In a town without bans the least sum is that of all cuts, each by rows of two sides."""
        chance = random.Random(176)
        for ring, folk, many in ((False, 12, 4), (True, 12, 3), (True, 11, 3)):
            resting = [other for other in all_stands([(1,), (-1,)], folk) if brute.beat(other, ring) == other]
            for _ in range(3):
                stand = [tuple(cut * chance.choice((1, -1)) for cut in range(1, many + 1)) for _ in range(folk)]
                due = sum(min(carried([(spot[cut] // (cut + 1),) for spot in stand], other) for other in resting)
                          for cut in range(many))
                self.same(self.check(Town(many, []), None, stand, ring), due)

    def test_rings_of_twelve(self):
        chance = random.Random(177)
        for town in (Town(3, []), Town(7, path(7)), Town(7, [(one, other) for one in range(1, 8)
                                                             for other in range(one + 1, 8)])):
            spots = town.spots()
            self.assertEqual(len(spots), 8)
            swing = [spots[7 * (at & 1)] for at in range(12)]
            self.check(town, spots, swing, True)
            total = self.check(town, spots, [chance.choice(spots) for _ in range(12)], True)
            self.assertGreater(total, 0)

    def test_no_cuts_and_few_folk(self):
        none = Town(0, [])
        self.same(mend(none, [()]), (0, [()]))
        self.same(mend(none, [()] * 60), (0, [()] * 60))
        self.same(mend(none, [()] * 12, ring=True), (0, [()] * 12))
        self.same(mend(Town(2, []), [(1, -2)]), (0, [(1, -2)]))
        self.same(mend(Town(2, []), [(1, -2), (-1, 2)]), (0, [(1, -2), (-1, 2)]))

    def refused(self, most, town, stand, ring):
        with self.assertRaises(TooMany) as caught:
            mend(town, stand, ring=ring)
        self.same(list(vars(caught.exception).items()), [("most", most)])

    def test_too_many(self):
        sixteen, seventeen, nine = Town(15, path(15)), Town(16, path(16)), Town(8, path(8))
        self.same(mend(sixteen, [sixteen.spots()[3]] * 2)[0], 0)
        self.same(mend(nine, [nine.spots()[3]] * 3)[0], 0)
        for town in (seventeen, Town(5, []), Town(60, []), Town(60, path(60))):
            self.refused(16, town, [town.spot_on([])] * 3, False)
        for town in (nine, Town(4, []), seventeen, Town(60, [])):
            self.refused(8, town, [town.spot_on([])] * 3, True)

    def test_what_is_told_is_new(self):
        town = Town(1, [])
        stand = [(1,), (1,), (-1,)]
        mend(town, stand)[1].append(7)
        self.same(mend(town, stand), (0, stand))
        self.same(stand, [(1,), (1,), (-1,)])
