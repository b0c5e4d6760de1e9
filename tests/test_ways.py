import itertools
import unittest

from meetrow.towns import Town
from meetrow.ways import apart, is_between, meet, streets_at, way
from tests import brute
from tests.test_towns import block, path


class Spots(unittest.TestCase):
    def test_apart(self):
        self.assertEqual(apart((1, 2, 3), (1, -2, -3)), 2)
        self.assertEqual(apart((1, -2), (1, -2)), 0)
        self.assertEqual(apart((), ()), 0)
        self.assertEqual(apart(tuple(range(1, 61)), tuple(range(-1, -61, -1))), 60)

    def test_between(self):
        self.assertIs(is_between((1, 2), (1, -2), (-1, -2)), True)
        self.assertIs(is_between((1, 2), (-1, 2), (1, -2)), False)
        self.assertIs(is_between((1, 2), (1, 2), (-1, -2)), True)
        self.assertIs(is_between((1, 2), (-1, -2), (-1, -2)), True)
        self.assertIs(is_between((1, 2), (1, 2), (1, 2)), True)
        self.assertIs(is_between((1, 2), (1, -2), (1, 2)), False)
        self.assertIs(is_between((), (), ()), True)

    def test_between_and_meet_as_told_by_the_ways(self):
        for town, spots in brute.plain_towns(11, 40, 4):
            far = lengths(spots)
            for one, two, three in itertools.product(spots, repeat=3):
                self.assertEqual(apart(one, two), far[one, two])
                self.assertIs(is_between(one, two, three), far[one, two] + far[two, three] == far[one, three])
                middle = meet(one, two, three)
                between = [spot for spot in spots if is_between(one, spot, two) and is_between(two, spot, three)
                           and is_between(one, spot, three)]
                self.assertEqual(brute.shape([middle]), brute.shape(between))

    def test_meet_with_the_same_twice(self):
        self.assertEqual(meet((1, 2), (-1, -2), (1, 2)), (1, 2))
        self.assertEqual(meet((1, 2), (1, 2), (-1, -2)), (1, 2))
        self.assertEqual(meet((-1, -2), (1, 2), (1, 2)), (1, 2))
        self.assertEqual(meet((1, 2), (1, 2), (1, 2)), (1, 2))
        self.assertEqual(meet((), (), ()), ())

    def test_meet_of_sixty_cuts(self):
        one = tuple(range(1, 61))
        two = tuple(range(-1, -61, -1))
        three = one[:20] + two[20:]
        self.assertEqual(meet(one, two, three), three)
        self.assertEqual(meet(three, one[:40] + two[40:], one), one[:40] + two[40:])


def lengths(spots):
    """How many streets lead from each spot to each, found street by street."""
    streets = {one: [other for other in spots if sum(a != b for a, b in zip(one, other)) == 1] for one in spots}
    far = {}
    for start in spots:
        far[start, start] = 0
        queue = [start]
        for spot in queue:
            for beside in streets[spot]:
                if (start, beside) not in far:
                    far[start, beside] = far[start, spot] + 1
                    queue.append(beside)
    return far


class Streets(unittest.TestCase):
    def test_streets_at(self):
        for town, spots in brute.plain_towns(12):
            for spot in spots:
                due = [cut for cut in range(1, len(town) + 1)
                       if tuple(-side if abs(side) == cut else side for side in spot) in spots]
                self.assertEqual(brute.shape(streets_at(town, spot)), brute.shape(due))

    def test_streets_at_the_edges(self):
        self.assertEqual(streets_at(Town(0, []), ()), [])
        self.assertEqual(streets_at(Town(60, []), tuple(range(1, 61))), list(range(1, 61)))
        self.assertEqual(streets_at(Town(60, path(60)), tuple(range(1, 31)) + tuple(range(-31, -61, -1))), [30, 31])
        self.assertEqual(streets_at(Town(3, [(1, 2), (-2, 3)]), (-1, 2, -3)), [2, 3])

    def test_what_is_told_is_new(self):
        town = Town(2, [])
        streets_at(town, (1, 2)).append(5)
        way(town, (1, 2), (-1, -2)).append(5)
        self.assertEqual(streets_at(town, (1, 2)), [1, 2])
        self.assertEqual(len(way(town, (1, 2), (-1, -2))), 3)


class Ways(unittest.TestCase):
    def check(self, town, one, other):
        told = way(town, one, other)
        self.assertIsInstance(told, list)
        self.assertEqual(told[0], one)
        self.assertEqual(told[-1], other)
        self.assertEqual(len(told), apart(one, other) + 1)
        for spot, onward in zip(told, told[1:]):
            self.assertEqual(apart(spot, onward), 1)
        for spot in told:
            self.assertIs(town.is_spot(spot), True)
        self.assertEqual(way(town, one, other), told)

    def test_ways_between_all_spots(self):
        for town, spots in brute.plain_towns(13, 80):
            for one, other in itertools.product(spots, repeat=2):
                self.check(town, one, other)

    def test_to_itself_and_no_cuts(self):
        self.assertEqual(way(Town(0, []), (), ()), [()])
        self.assertEqual(way(Town(2, []), (1, -2), (1, -2)), [(1, -2)])

    def test_sixty_cuts(self):
        first, last = tuple(range(1, 61)), tuple(range(-1, -61, -1))
        for town in (Town(60, []), Town(60, path(60))):
            self.check(town, first, last)
            self.check(town, last, first)

    def test_a_block(self):
        town = block()
        spots = town.spots()
        for one in spots[::37]:
            for other in spots[::41]:
                self.check(town, one, other)
