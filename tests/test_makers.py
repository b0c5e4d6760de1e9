import copy
import itertools
import random
import unittest

from meetrow.errors import TooMany
from meetrow.makers import floor, joined, product, tree
from meetrow.towns import Town
from meetrow.ways import apart
from tests import brute
from tests.test_towns import block, path


def numbered_on(spot, by):
    return tuple(side + by * (1 if side > 0 else -1) for side in spot)


class Case(unittest.TestCase):
    def same(self, told, due):
        self.assertEqual(brute.shape(told), brute.shape(due))

    def check(self, told, spots):
        """That a town is told with these spots, and its bans in plain form."""
        many, bans, there = told
        self.assertIsInstance(told, tuple)
        self.same(there, spots)
        self.same(many, len(spots[0]))
        town = Town(many, bans)
        self.same(town.bans(), bans)
        self.same(town.spots(), sorted(spots, key=lambda spot: [-side for side in spot]))

    def refused(self, most, asked, *handed):
        with self.assertRaises(TooMany) as caught:
            asked(*handed)
        self.same(list(vars(caught.exception).items()), [("most", most)])


class Trees(Case):
    def slow(self, elders):
        """All spots of a tree, by the ways from 0."""
        ways = [[]]
        for number, elder in enumerate(elders, 1):
            ways.append(ways[elder] + [number])
        return [tuple(cut if cut in way else -cut for cut in range(1, len(elders) + 1)) for way in ways]

    def test_a_tree(self):
        self.same(tree([0, 0, 1]),
                  (3, [(1, 2), (-1, 3), (2, 3)], [(-1, -2, -3), (1, -2, -3), (-1, 2, -3), (1, -2, 3)]))

    def test_one_spot_and_two(self):
        self.same(tree([]), (0, [], [()]))
        self.same(tree([0]), (1, [], [(-1,), (1,)]))

    def test_all_small_trees(self):
        for many in range(6):
            for elders in itertools.product(*[range(number) for number in range(1, many + 1)]):
                elders = list(elders)
                told = tree(elders)
                self.check(told, self.slow(elders))
                for number, elder in enumerate(elders, 1):
                    self.assertEqual(apart(told[2][number], told[2][elder]), 1)
                self.assertEqual(sum(apart(*pair) == 1 for pair in itertools.combinations(told[2], 2)), many)

    def test_sixty_one_spots(self):
        chance = random.Random(111)
        for elders in ([0] * 60, list(range(60)), [chance.randrange(number) for number in range(1, 61)]):
            before = list(elders)
            self.check(tree(elders), self.slow(elders))
            self.assertEqual(elders, before)
            self.refused(60, tree, elders + [0])
        self.refused(60, tree, [0] * 600)

    def test_what_is_told_is_new(self):
        told = tree([0, 0])
        told[1].append(7)
        told[2].append(7)
        self.check(tree([0, 0]), self.slow([0, 0]))


class Floors(Case):
    def slow(self, wide, high):
        return [tuple([cut if x >= cut else -cut for cut in range(1, wide + 1)]
                      + [wide + cut if y >= cut else -wide - cut for cut in range(1, high + 1)])
                for y in range(high + 1) for x in range(wide + 1)]

    def test_a_floor(self):
        self.same(floor(2, 1), (3, [(-1, 2)], [
            (-1, -2, -3), (1, -2, -3), (1, 2, -3), (-1, -2, 3), (1, -2, 3), (1, 2, 3)]))

    def test_floors(self):
        for wide, high in itertools.product(range(5), repeat=2):
            self.check(floor(wide, high), self.slow(wide, high))

    def test_a_side_of_nought(self):
        self.same(floor(0, 0), (0, [], [()]))
        self.same(floor(1, 0), (1, [], [(-1,), (1,)]))
        self.same(floor(0, 2), (2, [(-1, 2)], [(-1, -2), (1, -2), (1, 2)]))
        self.check(floor(60, 0), self.slow(60, 0))
        self.check(floor(0, 60), self.slow(0, 60))

    def test_cuts_and_spots(self):
        self.check(floor(9, 49), self.slow(9, 49))
        self.check(floor(49, 9), self.slow(49, 9))
        self.check(floor(6, 54), self.slow(6, 54))
        self.refused(60, floor, 61, 0)
        self.refused(60, floor, 0, 61)
        self.refused(60, floor, 30, 31)
        self.refused(60, floor, 2, 166)
        self.refused(60, floor, 10 ** 30, 10 ** 30)
        self.refused(500, floor, 30, 30)
        self.refused(500, floor, 50, 9)
        self.refused(500, floor, 22, 21)
        self.check(floor(21, 21), self.slow(21, 21))

    def test_five_hundred_spots_and_one(self):
        self.check(floor(24, 19), self.slow(24, 19))
        self.assertEqual(len(floor(24, 19)[2]), 500)
        self.refused(500, floor, 24, 20)
        # 501 is 3 times 167, so a floor of just so many spots has too many cuts.
        self.refused(500, floor, 23, 20)

    def test_what_is_told_is_new(self):
        told = floor(1, 1)
        told[1].append(7)
        told[2].append(7)
        self.check(floor(1, 1), self.slow(1, 1))


class Products(Case):
    def slow(self, spots, others, by):
        return [one + numbered_on(two, by) for one in spots for two in others]

    def test_a_product(self):
        self.same(product(Town(1, []), Town(2, [(1, 2)])), (3, [(2, 3)], [
            (1, 2, -3), (1, -2, 3), (1, -2, -3), (-1, 2, -3), (-1, -2, 3), (-1, -2, -3)]))

    def test_products(self):
        towns = [pair for pair in brute.plain_towns(112, 30, 4) if len(pair[1]) <= 12]
        for (town, spots), (other, others) in itertools.product(towns[:15], repeat=2):
            before = town.bans(), other.bans()
            told = product(town, other)
            self.check(told, self.slow(spots, others, len(town)))
            self.same(told[1], town.bans() + [numbered_on(ban, len(town)) for ban in other.bans()])
            self.assertEqual((town.bans(), other.bans()), before)

    def test_no_cuts_and_itself(self):
        none = Town(0, [])
        town = Town(2, [(1, -2)])
        self.same(product(none, none), (0, [], [()]))
        self.same(product(none, town), (2, town.bans(), town.spots()))
        self.same(product(town, none), (2, town.bans(), town.spots()))
        self.check(product(town, town), self.slow(town.spots(), town.spots(), 2))

    def test_too_many(self):
        none = Town(0, [])
        self.check(product(block(), none), block().spots())
        self.check(product(none, block()), block().spots())
        large, larger = Town(24, path(24)), Town(20, path(20))
        self.check(product(large, Town(19, path(19))), self.slow(large.spots(), Town(19, path(19)).spots(), 24))
        self.refused(500, product, large, larger)
        self.refused(500, product, block(), Town(1, []))
        self.refused(500, product, Town(1, []), block())
        self.refused(500, product, Town(9, []), none)
        self.refused(500, product, none, Town(9, []))
        self.refused(500, product, Town(60, []), none)
        self.refused(500, product, none, Town(60, []))
        self.refused(500, product, Town(30, []), Town(30, []))

    def test_cuts_ahead_of_spots(self):
        self.refused(60, product, Town(60, []), Town(1, []))
        self.refused(60, product, Town(1, []), Town(60, []))
        self.refused(60, product, Town(31, path(31)), Town(30, path(30)))
        self.refused(500, product, Town(30, path(30)), Town(30, path(30)))
        self.refused(60, product, Town(60, path(60)), Town(60, path(60)))
        self.check(product(Town(60, path(60)), Town(0, [])), Town(60, path(60)).spots())

    def test_what_is_told_is_new(self):
        town = Town(1, [])
        told = product(town, town)
        told[1].append(7)
        told[2].append(7)
        self.check(product(town, town), self.slow(town.spots(), town.spots(), 1))
        self.same(town.bans(), [])


class Joinings(Case):
    def slow(self, spots, spot, others, other):
        by = len(spot)
        beside = numbered_on(other, by)
        return [one + beside for one in spots] + [spot + numbered_on(two, by) for two in others if two != other]

    def test_a_joining(self):
        self.same(joined(Town(1, []), (-1,), Town(1, []), (1,)), (2, [(1, -2)], [(1, 2), (-1, 2), (-1, -2)]))
        self.same(joined(Town(1, []), (1,), Town(2, [(1, 2)]), (-1, 2)), (3, [(-1, 2), (-1, -3), (2, 3)], [
            (1, -2, 3), (-1, -2, 3), (1, 2, -3), (1, -2, -3)]))

    def test_joinings(self):
        chance = random.Random(113)
        towns = [pair for pair in brute.plain_towns(114, 30, 4) if len(pair[1]) <= 12]
        for (town, spots), (other, others) in itertools.product(towns[:15], repeat=2):
            spot, other_spot = chance.choice(spots), chance.choice(others)
            before = copy.deepcopy((town.bans(), other.bans()))
            told = joined(town, spot, other, other_spot)
            self.check(told, self.slow(spots, spot, others, other_spot))
            self.assertEqual((town.bans(), other.bans()), before)

    def test_no_cuts_and_itself(self):
        none = Town(0, [])
        town = Town(2, [(1, -2)])
        self.same(joined(none, (), none, ()), (0, [], [()]))
        for spot in town.spots():
            self.same(joined(town, spot, none, ()), (2, town.bans(), town.spots()))
            self.check(joined(none, (), town, spot), [spot] + [one for one in town.spots() if one != spot])
            self.check(joined(town, spot, town, spot), self.slow(town.spots(), spot, town.spots(), spot))

    def test_five_hundred_spots_and_one(self):
        town = block()
        spot = town.spots()[77]
        self.refused(500, joined, town, spot, Town(1, []), (1,))
        self.refused(500, joined, Town(1, []), (1,), town, spot)
        less = Town(5, [])
        large = Town(*floor(18, 24)[:2])
        first, second = less.spots()[5], large.spots()[9]
        self.check(joined(large, second, Town(5, path(5)), (1, 2, 3, 4, 5)),
                   self.slow(large.spots(), second, Town(5, path(5)).spots(), (1, 2, 3, 4, 5)))
        self.assertEqual(len(large.spots()), 475)
        six = Town(*floor(12, 1)[:2])
        self.assertEqual(len(six.spots()), 26)
        self.assertEqual(len(joined(large, second, six, six.spots()[3])[2]), 500)
        seven = Town(*tree([0] * 18)[:2])
        self.assertEqual(len(joined(large, second, seven, seven.spots()[3])[2]), 493)
        self.refused(500, joined, large, second, less, first)
        self.refused(500, joined, less, first, large, second)

    def test_towns_of_too_many_spots(self):
        none = Town(0, [])
        nine = Town(9, [])
        spot = tuple(range(1, 10))
        self.refused(500, joined, nine, spot, none, ())
        self.refused(500, joined, none, (), nine, spot)
        self.refused(500, joined, Town(60, []), tuple(range(1, 61)), none, ())

    def test_cuts_ahead_of_spots(self):
        sixty = Town(60, [])
        spot = tuple(range(1, 61))
        self.refused(60, joined, sixty, spot, Town(1, []), (1,))
        self.refused(60, joined, Town(1, []), (1,), sixty, spot)
        row = Town(60, path(60))
        self.refused(60, joined, row, spot, Town(1, []), (1,))
        self.check(joined(Town(30, path(30)), spot[:30], Town(30, path(30)), spot[:30]),
                   self.slow(Town(30, path(30)).spots(), spot[:30], Town(30, path(30)).spots(), spot[:30]))
        self.refused(60, joined, Town(31, path(31)), spot[:31], Town(30, path(30)), spot[:30])

    def test_what_is_told_is_new(self):
        town = Town(1, [])
        told = joined(town, (1,), town, (1,))
        told[1].append(7)
        told[2].append(7)
        self.check(joined(town, (1,), town, (1,)), self.slow(town.spots(), (1,), town.spots(), (1,)))
