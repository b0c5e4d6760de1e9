import copy
import random
import unittest

from meetrow.befores import before_at, befores
from meetrow.errors import NoNumber, TooMany
from meetrow.towns import Town
from tests import brute
from tests.test_rests import Case, all_stands, small
from tests.test_towns import path


class Befores(Case):
    def check(self, town, spots, folk, ring, most=40):
        by = {}
        for stand in all_stands(spots, folk):
            by.setdefault(tuple(brute.beat(stand, ring)), []).append(stand)
        chance = random.Random(70)
        stands = all_stands(spots, folk)
        for stand in chance.sample(stands, min(most, len(stands))):
            due = by.get(tuple(stand), [])
            before = copy.deepcopy(stand)
            self.same(befores(town, stand, ring=ring), len(due))
            for number, told in enumerate(due):
                self.same(before_at(town, stand, number, ring=ring), told)
            for number in (-1, len(due), len(due) + 1, -10 ** 59, 10 ** 59):
                self.refused(NoNumber, {"many": len(due)}, before_at, town, stand, number, ring=ring)
            if not ring:
                self.same(befores(town, stand), len(due))
            self.assertEqual(stand, before)
        return by

    def test_all_befores_of_small_rows(self):
        for town, spots in small(71, 12):
            for folk in range(1, 5):
                self.check(town, spots, folk, False)

    def test_all_befores_of_small_rings(self):
        for town, spots in small(72, 12, 4):
            for folk in range(3, 6):
                self.check(town, spots, folk, True)

    def test_towns_of_many_spots(self):
        self.check(Town(4, []), brute.settings(4), 3, False)
        self.check(Town(3, []), brute.settings(3), 3, True)
        self.check(Town(7, path(7)), brute.let(7, path(7)), 4, True)

    def test_each_stand_is_led_to_by_what_it_says(self):
        town, spots = Town(2, []), brute.settings(2)
        by = self.check(town, spots, 5, False, 300)
        self.assertEqual(sum(len(one) for one in by.values()), 4 ** 5)

    def test_rows_of_one_and_of_two(self):
        town = Town(2, [(1, 2)])
        for stand in ([(1, -2)], [(1, -2), (-1, 2)], [(-1, -2), (-1, -2)]):
            self.same(befores(town, stand), 1)
            self.same(before_at(town, stand, 0), stand)
            self.refused(NoNumber, {"many": 1}, before_at, town, stand, 1)
            self.refused(NoNumber, {"many": 1}, before_at, town, stand, -1)

    def test_none(self):
        town = Town(1, [])
        stand = [(1,), (-1,), (1,)]
        self.same(befores(town, stand), 0)
        self.refused(NoNumber, {"many": 0}, before_at, town, stand, 0)
        self.same(befores(town, stand, ring=True), 0)
        self.refused(NoNumber, {"many": 0}, before_at, town, stand, 0, ring=True)

    def test_rings_that_swing(self):
        town = Town(1, [])
        ring = [(1,), (-1,), (1,), (-1,)]
        self.same(befores(town, ring, ring=True), 1)
        self.same(before_at(town, ring, 0, ring=True), ring[1:] + ring[:1])

    def test_no_cuts(self):
        for folk, ring in ((1, False), (60, False), (3, True), (12, True)):
            self.same(befores(Town(0, []), [()] * folk, ring=ring), 1)
            self.same(before_at(Town(0, []), [()] * folk, 0, ring=ring), [()] * folk)
            self.refused(NoNumber, {"many": 1}, before_at, Town(0, []), [()] * folk, 1, ring=ring)

    def test_long_rows_and_rings(self):
        chance = random.Random(73)
        towns = [(Town(4, []), 60, False), (Town(15, path(15)), 60, False), (Town(3, []), 12, True),
                 (Town(7, path(7)), 12, True), (Town(2, [(1, 2)]), 11, True)]
        for town, folk, ring in towns:
            spots = town.spots()
            for _ in range(2):
                first = [chance.choice(spots) for _ in range(folk)]
                stand = brute.beat(first, ring)
                many = befores(town, stand, ring=ring)
                self.assertGreater(many, 0)
                numbers = sorted({0, many - 1, many // 2, many // 3, chance.randrange(many)})
                told = [before_at(town, stand, number, ring=ring) for number in numbers]
                for one in told:
                    self.assertEqual(brute.beat(one, ring), stand)
                places = [[spots.index(spot) for spot in one] for one in told]
                self.assertEqual(places, sorted(places))
                self.assertEqual(len({str(one) for one in told}), len(numbers))
                place = [spots.index(spot) for spot in first]
                self.assertLessEqual(places[0], place)
                self.assertLessEqual(place, places[-1])
                self.refused(NoNumber, {"many": many}, before_at, town, stand, many, ring=ring)
                self.refused(NoNumber, {"many": many}, before_at, town, stand, -1, ring=ring)
                self.assertIn(first, self.between(town, stand, first, ring, spots))

    def between(self, town, stand, first, ring, spots):
        """The before that a search by halves comes to."""
        place = [spots.index(spot) for spot in first]
        low, high = 0, befores(town, stand, ring=ring) - 1
        while low < high:
            middle = (low + high + 1) // 2
            told = [spots.index(spot) for spot in before_at(town, stand, middle, ring=ring)]
            low, high = (middle, high) if told <= place else (low, middle - 1)
        return [before_at(town, stand, low, ring=ring)]

    def test_each_cut_by_itself(self):
        chance = random.Random(74)
        one_cut = Town(1, [])
        for town, folk, ring in ((Town(4, []), 60, False), (Town(4, []), 9, False), (Town(3, []), 12, True)):
            for _ in range(4):
                first = [chance.choice(town.spots()) for _ in range(folk)]
                stand = brute.beat(first, ring)
                due = 1
                for cut in range(1, len(town) + 1):
                    due *= befores(one_cut, [(spot[cut - 1] // cut,) for spot in stand], ring=ring)
                self.same(befores(town, stand, ring=ring), due)

    def test_too_many_ahead_of_no_number(self):
        seventeen, nine = Town(16, path(16)), Town(8, path(8))
        spot = seventeen.spots()[3]
        self.refused(TooMany, {"most": 16}, befores, seventeen, [spot])
        for number in (0, -1, 1, 10 ** 59):
            self.refused(TooMany, {"most": 16}, before_at, seventeen, [spot], number)
        ring = [nine.spots()[2]] * 3
        self.refused(TooMany, {"most": 8}, befores, nine, ring, ring=True)
        for number in (0, -1, 10 ** 59):
            self.refused(TooMany, {"most": 8}, before_at, nine, ring, number, ring=True)
        self.refused(TooMany, {"most": 16}, befores, Town(60, []), [tuple(range(1, 61))])
        self.same(befores(nine, ring[:2]), 1)
        sixteen = Town(15, path(15))
        self.same(befores(sixteen, sixteen.spots()[:2]), 1)
        eight = Town(7, path(7))
        self.assertGreater(befores(eight, [eight.spots()[1]] * 3, ring=True), 1)

    def test_what_is_told_is_new(self):
        town = Town(1, [])
        stand = [(1,), (1,), (1,)]
        before_at(town, stand, 0).append(())
        self.same(before_at(town, stand, 0), [(1,), (1,), (1,)])
