import itertools
import random
import unittest

from meetrow.errors import TooMany
from meetrow.maps import is_map, led_by, map_of
from meetrow.towns import Town
from tests import brute
from tests.test_towns import path


def slow_led_by(table, spot):
    led = []
    for cut, entry in enumerate(table, 1):
        on = entry if isinstance(entry, bool) else entry in spot
        led.append(cut if on else -cut)
    return tuple(led)


def tables(town, goal):
    """All tables from a town to a goal."""
    return list(itertools.product(brute.sides(len(town)) + [True, False], repeat=len(goal)))


def slow_map_of(spots, goal_many, told):
    """What map_of is to tell, by the words: spots and what is told for them, all tables tried."""
    led = dict(zip(spots, told))
    for numbers in itertools.combinations(range(len(spots)), 3):
        one, two, three = [spots[number] for number in numbers]
        if led[meet(one, two, three)] != meet(led[one], led[two], led[three]):
            return ("three",) + numbers
    many = len(spots[0])
    entries = brute.sides(many) + [True, False]
    table = []
    for cut in range(1, goal_many + 1):
        fit = [entry for entry in entries if all((slow_led_by((entry,), spot)[0] > 0) == (cut in goal)
                                                 for spot, goal in led.items())]
        assert len(fit) == 1, (spots, told, fit)
        table += fit
    return ("map", tuple(table))


def meet(one, two, three):
    return tuple(a if a in (b, c) else b for a, b, c in zip(one, two, three))


class Case(unittest.TestCase):
    def same(self, told, due):
        self.assertEqual(brute.shape(told), brute.shape(due))

    def refused(self, most, *handed):
        with self.assertRaises(TooMany) as caught:
            map_of(*handed)
        self.same(list(vars(caught.exception).items()), [("most", most)])


class LedBy(Case):
    def test_entries(self):
        self.same(led_by((2, True, False, -1), (1, -2)), (-1, 2, -3, -4))
        self.same(led_by((2, True, False, -1), (-1, 2)), (1, 2, -3, 4))

    def test_one_is_a_side_and_true_is_none(self):
        self.same(led_by((1, True), (-1,)), (-1, 2))
        self.same(led_by((1, True), (1,)), (1, 2))

    def test_no_cuts(self):
        self.same(led_by((), ()), ())
        self.same(led_by((), (1, -2)), ())
        self.same(led_by((True, False), ()), (1, -2))

    def test_sixty_cuts(self):
        chance = random.Random(121)
        for _ in range(20):
            spot = tuple(chance.choice((cut, -cut)) for cut in range(1, 61))
            table = tuple(chance.choice(brute.sides(60) + [True, False]) for _ in range(60))
            self.same(led_by(table, spot), slow_led_by(table, spot))


class IsMap(Case):
    def check(self, town, spots, goal, goal_spots, table):
        due = all(slow_led_by(table, spot) in goal_spots for spot in spots)
        self.assertIs(is_map(town, goal, table), due, (str(town), str(goal), table))
        return due

    def test_all_tables_of_small_towns(self):
        found = {True: 0, False: 0}
        some = [pair for pair in brute.plain_towns(122, 60, 3) if len(pair[0]) <= 3][:25]
        for town, spots in some:
            for goal, goal_spots in some:
                if len(goal) <= 2:
                    for table in tables(town, goal):
                        found[self.check(town, spots, goal, set(goal_spots), table)] += 1
        self.assertGreater(min(found.values()), 500)

    def test_tables_of_larger_towns(self):
        chance = random.Random(123)
        found = {True: 0, False: 0}
        some = list(brute.plain_towns(124, 40, 6, 9))
        for _ in range(1500):
            (town, spots), (goal, goal_spots) = chance.choice(some), chance.choice(some)
            entries = brute.sides(len(town)) + [True, False] * (1 + len(town) // 3)
            table = tuple(chance.choice(entries) for _ in range(len(goal)))
            found[self.check(town, spots, goal, set(goal_spots), table)] += 1
        self.assertGreater(min(found.values()), 50)

    def test_sixty_cuts_and_no_listing(self):
        town, way = Town(60, []), Town(60, path(60))
        itself = tuple(range(1, 61))
        self.assertIs(is_map(town, town, itself), True)
        self.assertIs(is_map(way, town, itself), True)
        self.assertIs(is_map(town, way, itself), False)
        self.assertIs(is_map(way, way, itself), True)
        self.assertIs(is_map(way, way, tuple(range(-60, 0))), True)
        self.assertIs(is_map(way, way, (1,) + itself[:59]), True)
        self.assertIs(is_map(way, way, (True,) + itself[1:]), True)
        self.assertIs(is_map(way, way, itself[:59] + (False,)), True)
        self.assertIs(is_map(way, way, itself[:59] + (True,)), False)
        self.assertIs(is_map(way, way, (False,) + itself[1:]), False)

    def test_no_cuts(self):
        self.assertIs(is_map(Town(0, []), Town(0, []), ()), True)
        self.assertIs(is_map(Town(3, []), Town(0, []), ()), True)
        for entries in itertools.product((True, False), repeat=2):
            self.assertIs(is_map(Town(0, []), Town(2, [(1, -2)]), entries), entries != (True, False))


class MapOf(Case):
    def test_all_lists_of_tiny_towns(self):
        towns = [(Town(many, bans), brute.let(many, bans)) for many, bans in (
            (0, []), (1, []), (2, []), (2, [(1, 2)]), (2, [(-1, 2)]), (3, path(3)), (3, [(1, 2), (1, 3), (2, 3)]))]
        found = {"map": 0, "three": 0}
        for (town, spots), (goal, goal_spots) in itertools.product(towns, towns):
            for told in itertools.product(goal_spots, repeat=len(spots)):
                due = slow_map_of(spots, len(goal), list(told))
                self.same(map_of(town, goal, list(told)), due)
                found[due[0]] += 1
        self.assertGreater(min(found.values()), 200)

    def test_maps_and_lists_with_one_spot_otherwise(self):
        chance = random.Random(127)
        some = [pair for pair in brute.plain_towns(128, 120, 5) if 2 < len(pair[1]) <= 24]
        found = {"map": 0, "three": 0}
        while min(found.values()) < 100:
            (town, spots), (goal, goal_spots) = chance.choice(some), chance.choice(some)
            entries = brute.sides(len(town)) + [True, False]
            table = tuple(chance.choice(entries) for _ in range(len(goal)))
            if not is_map(town, goal, table):
                continue
            told = [led_by(table, spot) for spot in spots]
            self.same(map_of(town, goal, told), ("map", table))
            found["map"] += 1
            told[chance.randrange(len(told))] = chance.choice(goal_spots)
            due = slow_map_of(spots, len(goal), told)
            before = list(told)
            self.same(map_of(town, goal, told), due)
            self.assertEqual(told, before)
            found[due[0]] += 1

    def test_the_first_three_of_several(self):
        square = Town(2, [])
        self.same(map_of(square, square, [(1, 2)] * 4), ("map", (True, True)))
        town = Town(3, path(3))
        self.same(map_of(town, town, town.spots()), ("map", (1, 2, 3)))
        self.same(map_of(town, town, town.spots()[::-1]), ("map", (-3, -2, -1)))
        self.same(map_of(town, town, [town.spots()[at] for at in (0, 1, 3, 2)]), ("three", 0, 2, 3))
        self.same(map_of(town, town, [town.spots()[at] for at in (0, 2, 1, 3)]), ("three", 0, 1, 2))

    def test_one_spot_and_two(self):
        self.same(map_of(Town(0, []), Town(2, []), [(1, -2)]), ("map", (True, False)))
        self.same(map_of(Town(1, []), Town(2, []), [(1, -2), (-1, -2)]), ("map", (1, False)))
        self.same(map_of(Town(1, []), Town(2, []), [(-1, -2), (1, 2)]), ("map", (-1, -1)))
        self.same(map_of(Town(1, []), Town(0, []), [(), ()]), ("map", ()))

    def test_sixty_cuts(self):
        way = Town(60, path(60))
        town = Town(23, path(23))
        spots = way.spots()
        self.same(map_of(town, way, spots[:24]), ("map", (True,) * 37 + tuple(range(1, 24))))
        self.same(map_of(town, way, spots[:23] + [spots[0]]), ("three", 0, 1, 23))

    def test_too_many(self):
        town, more = Town(23, path(23)), Town(24, path(24))
        self.assertEqual(map_of(town, town, town.spots())[0], "map")
        self.refused(24, more, town, town.spots() + [town.spots()[0]])
        for told in ([], [()], [(1,)] * 30, [None], [(1, 2)] * 24):
            self.refused(24, more, town, told)
            self.refused(24, Town(5, []), town, told)
            self.refused(24, Town(60, []), Town(0, []), told)
