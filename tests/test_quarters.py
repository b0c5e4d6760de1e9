import copy
import itertools
import random
import unittest

from meetrow.errors import NoQuarter
from meetrow.quarters import gate, hull, parted, quarter, wish_clash, wish_spot
from meetrow.towns import Town
from meetrow.ways import apart, is_between
from tests import brute
from tests.test_towns import path


def on(spots, sides):
    return [spot for spot in spots if all(side in spot for side in sides)]


def shared(town, spots):
    return [side for side in brute.sides(len(town)) if all(side in spot for spot in spots)]


def lists_of_sides(town, most):
    for long in range(most + 1):
        for sides in itertools.product(brute.sides(len(town)), repeat=long):
            yield list(sides)


class Case(unittest.TestCase):
    def same(self, told, due):
        self.assertEqual(brute.shape(told), brute.shape(due))

    def refused(self, number, asked, *handed):
        before = copy.deepcopy(handed[1:])
        with self.assertRaises(NoQuarter) as caught:
            asked(*handed)
        self.same(list(vars(caught.exception).items()), [("number", number)])
        self.assertEqual(handed[1:], before)


class Quarters(Case):
    def test_quarters(self):
        refused = 0
        for town, spots in brute.plain_towns(21, 60, 4):
            for sides in lists_of_sides(town, 3):
                inside = on(spots, sides)
                if inside:
                    before = list(sides)
                    self.same(quarter(town, sides), shared(town, inside))
                    self.assertEqual(sides, before)
                else:
                    refused += 1
                    self.refused(0, quarter, town, sides)
        self.assertGreater(refused, 100)

    def test_no_sides_and_no_cuts(self):
        self.same(quarter(Town(3, [(1, 2)]), []), [])
        self.same(quarter(Town(0, []), []), [])

    def test_sixty_cuts(self):
        town = Town(60, path(60))
        self.same(quarter(town, [-35, 30]), list(range(1, 31)) + list(range(-35, -61, -1)))
        self.refused(0, quarter, town, [30, -20])
        self.same(quarter(Town(60, []), [60, -1, 60]), [-1, 60])

    def test_all_between_two_spots_of_a_quarter_is_in_it(self):
        for town, spots in brute.plain_towns(22, 20, 4):
            for sides in lists_of_sides(town, 2):
                inside = on(spots, sides)
                for one, other in itertools.combinations(inside, 2):
                    for spot in spots:
                        if is_between(one, spot, other):
                            self.assertIn(spot, inside)

    def test_hull(self):
        chance = random.Random(23)
        for town, spots in brute.plain_towns(24, 80):
            for _ in range(10):
                some = [chance.choice(spots) for _ in range(chance.randint(1, 4))]
                before = list(some)
                told = hull(town, some)
                self.same(told, shared(town, some))
                self.assertEqual(some, before)
                inside = on(spots, told)
                self.assertTrue(set(some) <= set(inside))
                for sides in ([side] for side in brute.sides(len(town))):
                    if set(some) <= set(on(spots, sides)):
                        self.assertTrue(set(inside) <= set(on(spots, sides)))

    def test_hull_of_one_spot_and_of_no_cuts(self):
        self.same(hull(Town(3, []), [(1, -2, 3)]), [1, -2, 3])
        self.same(hull(Town(3, []), [(1, -2, 3), (1, -2, 3)]), [1, -2, 3])
        self.same(hull(Town(0, []), [()]), [])
        self.same(hull(Town(2, []), [(1, 2), (-1, -2)]), [])

    def test_what_is_told_is_new(self):
        town, sides, spots = Town(2, []), [1, -2], [(1, -2)]
        quarter(town, sides).append(5)
        hull(town, spots).append(5)
        self.assertEqual((quarter(town, sides), hull(town, spots)), ([1, -2], [1, -2]))
        self.assertEqual((sides, spots), ([1, -2], [(1, -2)]))


class Gates(Case):
    def test_gates(self):
        for town, spots in brute.plain_towns(25, 40, 4):
            for sides in lists_of_sides(town, 2):
                inside = on(spots, sides)
                for spot in spots:
                    if not inside:
                        self.refused(0, gate, town, spot, sides)
                        continue
                    near = min(apart(spot, one) for one in inside)
                    due = [one for one in inside if apart(spot, one) == near]
                    self.same([gate(town, spot, sides)], due)
                    for one in inside:
                        self.assertTrue(is_between(spot, due[0], one))

    def test_edges(self):
        self.same(gate(Town(0, []), (), []), ())
        self.same(gate(Town(2, []), (1, -2), []), (1, -2))
        self.same(gate(Town(60, path(60)), tuple(range(1, 61)), [-30]), tuple(range(1, 30)) + tuple(range(-30, -61, -1)))


class Parted(Case):
    def test_parted(self):
        found = {}
        for town, spots in brute.plain_towns(26, 40, 4):
            quarters = list(lists_of_sides(town, 2))
            for sides in quarters:
                for other in quarters[::5]:
                    first, second = on(spots, sides), on(spots, other)
                    kind = "none" if not first else "second" if not second else "parted"
                    if kind == "none":
                        self.refused(0, parted, town, sides, other)
                    elif kind == "second":
                        self.refused(1, parted, town, sides, other)
                    elif set(first) & set(second):
                        kind = "shared"
                        self.assertIsNone(parted(town, sides, other))
                    else:
                        side = parted(town, sides, other)
                        self.assertIn(brute.shape(side), [brute.shape(one) for one in brute.sides(len(town))])
                        self.assertTrue(all(side in spot for spot in first))
                        self.assertFalse(any(side in spot for spot in second))
                    found[kind] = found.get(kind, 0) + 1
        self.assertEqual(len(found), 4)
        self.assertGreater(min(found.values()), 100)

    def test_which_of_two_without_a_spot_is_told(self):
        town = Town(2, [(1, 2)])
        self.refused(0, parted, town, [1, 2], [1, -1])
        self.refused(0, parted, town, [1, 2], [1])
        self.refused(1, parted, town, [1], [1, 2])

    def test_parted_by_what_follows_alone(self):
        town = Town(3, [(1, 2), (-2, 3)])
        self.assertIn(parted(town, [1], [3]), [1, -2, -3])
        self.assertIsNone(parted(town, [-1], [3]))
        self.assertIsNone(parted(Town(0, []), [], []))
        self.assertIsNone(parted(town, [], [3]))


class Wishes(Case):
    def check(self, town, spots, wishes):
        before = copy.deepcopy(wishes)
        inside = [on(spots, wish) for wish in wishes]
        empty = [number for number, found in enumerate(inside) if not found]
        if empty:
            self.refused(empty[0], wish_spot, town, wishes)
            self.refused(empty[0], wish_clash, town, wishes)
            return "refused"
        spot, clash = wish_spot(town, wishes), wish_clash(town, wishes)
        due = [one for one in spots if all(one in found for found in inside)]
        if due:
            self.assertIn(brute.shape(spot), [brute.shape(one) for one in due])
            self.assertIsNone(clash)
        else:
            self.assertIsNone(spot)
            self.assertIsInstance(clash, tuple)
            one, other, side = clash
            self.assertTrue(0 <= one < len(wishes) and 0 <= other < len(wishes))
            self.assertTrue(all(side in found for found in inside[one]))
            self.assertFalse(any(side in found for found in inside[other]))
        self.assertEqual(wishes, before)
        return "kept" if due else "clash"

    def test_wishes(self):
        chance = random.Random(27)
        found = {}
        for town, spots in brute.plain_towns(28, 120):
            for _ in range(25):
                wishes = [[chance.choice(brute.sides(len(town))) for _ in range(chance.randint(0, 2))]
                          for _ in range(chance.randint(0, 4))] if len(town) else [[]] * chance.randint(0, 3)
                kind = self.check(town, spots, wishes)
                found[kind] = found.get(kind, 0) + 1
        self.assertGreater(min(found.values()), 100)
        self.assertEqual(len(found), 3)

    def test_no_wishes(self):
        self.assertEqual(self.check(Town(0, []), [()], []), "kept")
        self.assertEqual(self.check(Town(2, [(1, 2)]), brute.let(2, [(1, 2)]), []), "kept")

    def test_the_first_without_a_spot_is_told(self):
        town = Town(2, [(1, 2)])
        for wishes, number in [([[1, 2]], 0), ([[1], [-1], [2, 1], [1, -1]], 2), ([[], [1, -1], [1, 2]], 1)]:
            self.refused(number, wish_spot, town, wishes)
            self.refused(number, wish_clash, town, wishes)

    def test_a_clash_by_what_follows_alone(self):
        town = Town(3, [(1, 2), (-2, 3)])
        self.assertEqual(self.check(town, town.spots(), [[-1], [], [1], [3]]), "clash")
        self.assertEqual(self.check(town, town.spots(), [[3], [], [1], [1]]), "clash")

    def test_many_wishes(self):
        town = Town(60, path(60))
        wishes = [[cut] for cut in range(1, 31)] * 60 + [[-cut] for cut in range(31, 61)] * 60
        self.assertEqual(wish_spot(town, wishes), tuple(range(1, 31)) + tuple(range(-31, -61, -1)))
        self.assertIsNone(wish_clash(town, wishes))
        self.assertIsNone(wish_spot(town, wishes + [[-7]]))
        one, other, side = wish_clash(town, wishes + [[-7]])
        self.assertTrue(3600 in (one, other) and one != other)
