import itertools
import math
import unittest

from meetrow.cubes import cubes
from meetrow.errors import TooMany
from meetrow.towns import Town
from tests import brute
from tests.test_towns import path


def slow_cubes(many, spots):
    """How many cubes of each number of ways there are, straight from the words."""
    known = set(spots)
    found = []
    for ways in range(many + 1):
        count = 0
        for cuts in itertools.combinations(range(1, many + 1), ways):
            others = [(cut, -cut) for cut in range(1, many + 1) if cut not in cuts]
            for kept in itertools.product(*others):
                mine = itertools.product(*[(cut, -cut) for cut in cuts])
                count += all(tuple(sorted(kept + sides, key=abs)) in known for sides in mine)
        found.append(count)
    while not found[-1]:
        found.pop()
    return found


class Cubes(unittest.TestCase):
    def same(self, told, due):
        self.assertEqual(brute.shape(told), brute.shape(due))

    def test_cubes_by_the_words(self):
        longest = {}
        for town, spots in brute.plain_towns(101, 200):
            if len(spots) > 24:
                continue
            told = cubes(town)
            self.same(told, slow_cubes(len(town), spots))
            longest[len(told)] = True
            self.assertEqual(sum(many * (-1) ** ways for ways, many in enumerate(told)), 1)
            self.assertEqual(sum(ways * many * -(-1) ** ways for ways, many in enumerate(told)), len(town))
        self.assertGreaterEqual(set(longest), {1, 2, 3, 4})

    def test_a_town(self):
        self.same(cubes(Town(3, [(1, 2)])), [6, 7, 2])
        self.same(cubes(Town(3, [(1, 2), (-2, 3)])), [4, 3])

    def test_no_cuts_and_whole_cubes(self):
        self.same(cubes(Town(0, [])), [1])
        for ways in range(5):
            self.same(cubes(Town(ways, [])), [math.comb(ways, at) * 2 ** (ways - at) for at in range(ways + 1)])

    def test_up_to_twenty_four_spots(self):
        self.same(cubes(Town(23, path(23))), [24, 23])
        floor = Town(7, path(5) + path(2, 6))
        self.same(cubes(floor), [18, 27, 10])
        block = Town(7, path(5))
        self.same(cubes(block), slow_cubes(7, block.spots()))
        self.assertEqual(cubes(block)[0], 24)
        both = Town(7, [(-one, -other) for one in range(1, 4) for other in range(4, 8)])
        self.same(cubes(both), [23, 44, 30, 9, 1])
        self.same(cubes(both), slow_cubes(7, both.spots()))

    def test_too_many(self):
        for town in (Town(24, path(24)), Town(5, []), Town(60, []), Town(60, path(60)), Town(8, path(4))):
            with self.assertRaises(TooMany) as caught:
                cubes(town)
            self.same(list(vars(caught.exception).items()), [("most", 24)])

    def test_what_is_told_is_new(self):
        town = Town(1, [])
        cubes(town).append(7)
        self.same(cubes(town), [2, 1])
