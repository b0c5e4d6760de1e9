import itertools
import math
import random
import unittest

from meetrow.counts import way_at, ways_many
from meetrow.errors import NoNumber, TooMany
from meetrow.towns import Town
from tests import brute
from tests.test_towns import path


def slow_ways(spots, one, other):
    """All shortest ways, rising by the cuts of their streets: each street that comes nearer is tried."""
    there = set(spots)
    unlike = [cut for cut, (here, beside) in enumerate(zip(one, other), 1) if here != beside]
    if not unlike:
        return [[one]]
    found = []
    for cut in unlike:
        onward = one[:cut - 1] + (-one[cut - 1],) + one[cut:]
        if onward in there:
            found += [[one] + way for way in slow_ways(spots, onward, other)]
    return found


class Case(unittest.TestCase):
    def same(self, told, due):
        self.assertEqual(brute.shape(told), brute.shape(due))

    def refused(self, error, fields, asked, *handed):
        with self.assertRaises(error) as caught:
            asked(*handed)
        self.same(list(vars(caught.exception).items()), list(fields.items()))


class Ways(Case):
    def check(self, town, spots, one, other):
        due = slow_ways(spots, one, other)
        self.same(ways_many(town, one, other), len(due))
        for number, way in enumerate(due):
            self.same(way_at(town, one, other, number), way)
        for number in (-1, len(due), len(due) + 1, -len(due), 10 ** 59, -10 ** 59):
            self.refused(NoNumber, {"many": len(due)}, way_at, town, one, other, number)
        return len(due)

    def test_a_square_and_a_corner(self):
        square = Town(2, [])
        self.same(ways_many(square, (1, 2), (-1, -2)), 2)
        self.same(way_at(square, (1, 2), (-1, -2), 0), [(1, 2), (-1, 2), (-1, -2)])
        self.same(way_at(square, (1, 2), (-1, -2), 1), [(1, 2), (1, -2), (-1, -2)])
        corner = Town(2, [(-1, 2)])
        self.same(ways_many(corner, (1, 2), (-1, -2)), 1)
        self.same(way_at(corner, (1, 2), (-1, -2), 0), [(1, 2), (1, -2), (-1, -2)])

    def test_all_ways_of_small_towns(self):
        found = {}
        for town, spots in brute.plain_towns(161, 50, 5):
            for one, other in itertools.product(spots, repeat=2):
                many = self.check(town, spots, one, other)
                found[many] = found.get(many, 0) + 1
        self.assertGreater(min(found[many] for many in (1, 2, 3, 6)), 20)

    def test_ways_of_larger_towns(self):
        chance = random.Random(162)
        for town, spots in brute.plain_towns(163, 40, 7, 9):
            one, other = max(itertools.product(spots, repeat=2),
                             key=lambda pair: (sum(a != b for a, b in zip(*pair)), chance.random()))
            if ways_many(town, one, other) < 800:
                self.check(town, spots, one, other)

    def test_to_itself(self):
        for town, spots in brute.plain_towns(164, 20, 4):
            for spot in spots:
                self.check(town, spots, spot, spot)
        self.same(ways_many(Town(0, []), (), ()), 1)
        self.same(way_at(Town(0, []), (), (), 0), [()])
        self.refused(NoNumber, {"many": 1}, way_at, Town(0, []), (), (), 1)

    def test_twelve_away(self):
        town = Town(60, [])
        one = tuple(range(1, 61))
        cuts = list(range(3, 60, 5))
        other = tuple(-cut if cut in cuts else cut for cut in one)
        self.same(len(cuts), 12)
        many = math.factorial(12)
        self.same(ways_many(town, one, other), many)
        self.same([abs(cut) for cut in self.crossed(way_at(town, one, other, 0))], cuts)
        self.same([abs(cut) for cut in self.crossed(way_at(town, one, other, many - 1))], cuts[::-1])
        self.same(self.crossed(way_at(town, other, one, 1)), cuts[:10] + [cuts[11], cuts[10]])
        chance = random.Random(165)
        for _ in range(20):
            order = chance.sample(cuts, 12)
            self.same([abs(cut) for cut in self.crossed(way_at(town, one, other, self.place(order)))], order)
        for number in (-1, many):
            self.refused(NoNumber, {"many": many}, way_at, town, one, other, number)

    def crossed(self, way):
        """The sides to which each street of a way leads."""
        for here, there in zip(way, way[1:]):
            self.assertEqual(sum(a != b for a, b in zip(here, there)), 1)
        return [b for here, there in zip(way, way[1:]) for a, b in zip(here, there) if a != b]

    def place(self, order):
        """The number of an order of unlike cuts among all, rising."""
        left = sorted(order)
        number = 0
        for cut in order:
            number += left.index(cut) * math.factorial(len(left) - 1)
            left.remove(cut)
        return number

    def test_twelve_away_along_two_paths(self):
        # Ways of two paths of six streets: each order in which the one's and the other's may be mixed.
        town = Town(12, path(6) + path(6, 7))
        one, other = tuple(range(1, 13)), tuple(range(-1, -13, -1))
        self.same(ways_many(town, one, other), math.comb(12, 6))
        self.same(self.crossed(way_at(town, one, other, 0)), [-6, -5, -4, -3, -2, -1, -12, -11, -10, -9, -8, -7])
        self.same(self.crossed(way_at(town, one, other, 923)), [-12, -11, -10, -9, -8, -7, -6, -5, -4, -3, -2, -1])

    def test_thirteen_away_is_too_many(self):
        town = Town(60, [])
        one = tuple(range(1, 61))
        for away in (13, 14, 60):
            other = tuple(-cut if cut <= away else cut for cut in one)
            self.refused(TooMany, {"most": 12}, ways_many, town, one, other)
            for number in (0, -1, 10 ** 59):
                self.refused(TooMany, {"most": 12}, way_at, town, one, other, number)
        way = Town(60, path(60))
        self.same(ways_many(way, one, way.spots()[12]), 1)
        self.refused(TooMany, {"most": 12}, ways_many, way, one, way.spots()[13])

    def test_what_is_told_is_new(self):
        town = Town(2, [])
        way_at(town, (1, 2), (-1, -2), 0).append(7)
        self.same(way_at(town, (1, 2), (-1, -2), 0), [(1, 2), (-1, 2), (-1, -2)])
