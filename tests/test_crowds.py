import copy
import random
import unittest

from meetrow.crowds import crowd_sum, fair
from meetrow.errors import NoQuarter
from meetrow.towns import Town
from meetrow.ways import apart
from tests import brute
from tests.test_quarters import on, shared
from tests.test_towns import path


class Sums(unittest.TestCase):
    def test_sums(self):
        crowd = [((1, 2), 1), ((1, -2), 10 ** 9), ((1, 2), 3)]
        self.assertEqual(crowd_sum(crowd, (1, 2)), 10 ** 9)
        self.assertEqual(crowd_sum(crowd, (-1, -2)), 10 ** 9 + 8)
        self.assertEqual(crowd_sum([((), 10 ** 9)], ()), 0)
        self.assertEqual(crowd_sum([(tuple(range(1, 61)), 10 ** 9)] * 3, tuple(range(-1, -61, -1))), 180 * 10 ** 9)

    def test_sums_by_the_words(self):
        chance = random.Random(29)
        for _, spots in brute.plain_towns(30, 60):
            crowd = [(chance.choice(spots), chance.randint(1, 9)) for _ in range(chance.randint(1, 6))]
            for spot in spots:
                self.assertEqual(crowd_sum(crowd, spot), sum(weight * apart(spot, one) for one, weight in crowd))


class Fair(unittest.TestCase):
    def same(self, told, due):
        self.assertEqual(brute.shape(told), brute.shape(due))

    def test_fair_spots(self):
        chance = random.Random(31)
        found = {"refused": 0, "told": 0, "even": 0}
        for town, spots in brute.plain_towns(32, 150):
            for _ in range(12):
                crowd = [(chance.choice(spots), chance.choice((1, 1, 2, 3))) for _ in range(chance.randint(1, 6))]
                within = [chance.choice(brute.sides(len(town))) for _ in range(chance.randint(0, 3) if len(town) else 0)]
                before = copy.deepcopy((crowd, within))
                inside = on(spots, within)
                if not inside:
                    found["refused"] += 1
                    self.refused(town, crowd, within)
                    continue
                sums = {spot: crowd_sum(crowd, spot) for spot in inside}
                least = [spot for spot in inside if sums[spot] == min(sums.values())]
                told = fair(town, crowd, within=within)
                self.same(told, shared(town, least))
                self.assertEqual(on(spots, told), least)
                self.same(fair(town, crowd, within=tuple(within)), told)
                if not within:
                    self.same(fair(town, crowd), told)
                self.assertEqual((crowd, within), before)
                found["told"] += 1
                found["even"] += len(least) > 1
        self.assertGreater(min(found.values()), 50)

    def refused(self, town, crowd, within):
        for sides in (within, tuple(within)):
            with self.assertRaises(NoQuarter) as caught:
                fair(town, crowd, within=sides)
            self.same(list(vars(caught.exception).items()), [("number", 0)])

    def test_within_is_left_out_or_empty(self):
        town = Town(2, [])
        crowd = [((1, 2), 1), ((1, -2), 1), ((-1, 2), 1)]
        self.same(fair(town, crowd), [1, 2])
        self.same(fair(town, crowd, within=()), [1, 2])
        self.same(fair(town, crowd, within=[]), [1, 2])
        self.same(fair(town, crowd, within=(-1,)), [-1, 2])
        self.same(fair(town, crowd, within=[-1]), [-1, 2])
        with self.assertRaises(TypeError):
            fair(town, crowd, [-1])

    def test_even_cuts(self):
        town = Town(2, [])
        self.same(fair(town, [((1, 2), 5), ((-1, 2), 5)]), [2])
        self.same(fair(town, [((1, 2), 5), ((-1, -2), 5)]), [])
        self.same(fair(town, [((1, 2), 5), ((-1, -2), 4), ((-1, -2), 1)], within=[-2]), [-2])

    def test_even_cuts_that_follow(self):
        town = Town(3, [(1, 2), (-2, 3)])
        crowd = [((1, -2, -3), 1), ((-1, 2, 3), 1)]
        self.same(fair(town, crowd), [])
        self.same(fair(town, crowd, within=[3]), [-1, 2, 3])
        self.same(fair(town, crowd, within=[1]), [1, -2, -3])

    def test_weights(self):
        town = Town(1, [])
        self.same(fair(town, [((1,), 10 ** 9)] + [((-1,), 1)] * 1000), [1])
        self.same(fair(town, [((1,), 10 ** 9), ((-1,), 10 ** 9 - 1)]), [1])
        self.same(fair(town, [((1,), 10 ** 9 - 1), ((-1,), 10 ** 9)]), [-1])
        self.same(fair(town, [((1,), 10 ** 9), ((-1,), 10 ** 9)]), [])
        self.same(fair(town, [((1,), 1)]), [1])

    def test_edges(self):
        self.same(fair(Town(0, []), [((), 1)]), [])
        town = Town(60, path(60))
        spots = town.spots()
        self.same(fair(town, [(spot, 1) for spot in spots]), list(spots[30]))
        self.same(fair(town, [(spot, 1) for spot in spots[1:]]), shared(town, [spots[30], spots[31]]))
        self.same(fair(town, [(spot, 1) for spot in spots], within=[-10]), list(spots[51]))
        self.refused(town, [(spots[0], 1)], [-10, 11])
