import random
import unittest

from meetrow.beats import behind
from meetrow.tallies import alike_from, comings, walked
from tests import brute

MOST = 10 ** 100


def apart(one, other):
    return sum(side != beside for side, beside in zip(one, other))


def slow_walked(course, beats):
    return sum(apart(here, there) for here, there in zip(course[:beats], course[1:beats + 1]))


def slow_comings(course, sides, beats):
    inside = [all(side in spot for side in sides) for spot in course]
    return sum(there and not here for here, there in zip(inside[:beats], inside[1:beats + 1]))


class Case(unittest.TestCase):
    def same(self, told, due):
        self.assertEqual(brute.shape(told), brute.shape(due))


class Walked(Case):
    def test_a_row(self):
        stand = [(1, 2), (-1, 2), (1, -2), (-1, -2)]
        self.same([walked(stand, 1, beats) for beats in range(4)], [0, 1, 1, 1])
        self.same([walked(stand, 0, beats) for beats in (0, 1, MOST)], [0, 0, 0])

    def test_a_ring_that_swings_for_ever(self):
        stand = [(1, 2), (-1, 2), (1, 2), (-1, 2)]
        self.same(walked(stand, 2, 7, ring=True), 7)
        self.same(walked(stand, 2, MOST, ring=True), MOST)
        self.same(walked([(1, 2), (-1, -2)] * 2, 2, MOST, ring=True), 2 * MOST)

    def test_by_the_words(self):
        for _, _, stand, ring in brute.stands(141):
            before = list(stand)
            stands = brute.beats(stand, 12, ring)
            for folk in range(len(stand)):
                course = [one[folk] for one in stands]
                for beats in range(13):
                    due = slow_walked(course, beats)
                    self.same(walked(stand, folk, beats, ring=ring), due)
                    if not ring:
                        self.same(walked(stand, folk, beats), due)
            self.assertEqual(stand, before)

    def test_long_stands(self):
        for stand, ring in brute.long_stands():
            stands = brute.beats(stand, 40, ring)
            for folk in (0, 1, len(stand) // 2, len(stand) - 1):
                course = [one[folk] for one in stands]
                for beats in (0, 1, 28, 29, 30, 31, 40):
                    self.same(walked(stand, folk, beats, ring=ring), slow_walked(course, beats))
                swing = apart(course[39], course[40])
                self.same(walked(stand, folk, MOST, ring=ring), slow_walked(course, 40) + swing * (MOST - 40))

    def test_one_folk_and_no_cuts(self):
        self.same(walked([(1, 2)], 0, MOST), 0)
        self.same(walked([()], 0, 7), 0)
        self.same(walked([(), (), ()], 1, MOST, ring=True), 0)


class Comings(Case):
    def test_to_and_fro(self):
        stand = [(1, 2), (-1, 2), (1, 2), (-1, 2)]
        self.same([comings(stand, 0, [1], beats, ring=True) for beats in range(6)], [0, 0, 1, 1, 2, 2])
        self.same([comings(stand, 1, [1], beats, ring=True) for beats in range(6)], [0, 1, 1, 2, 2, 3])
        self.same(comings(stand, 0, [1, 2], MOST, ring=True), MOST // 2)
        self.same(comings(stand, 1, [2, 1], MOST, ring=True), MOST // 2)
        self.same(comings(stand, 1, [1], MOST - 1, ring=True), MOST // 2)
        self.same(comings(stand, 0, [1], MOST - 1, ring=True), MOST // 2 - 1)
        self.same(comings(stand, 0, [2], MOST, ring=True), 0)
        self.same(comings(stand, 0, [-2], MOST, ring=True), 0)

    def test_whoever_is_there_does_not_come(self):
        self.same(comings([(1,)], 0, [1], MOST), 0)
        self.same(comings([(1,)], 0, [-1], MOST), 0)

    def test_no_sides_and_no_spots(self):
        stand = [(1, 2), (-1, 2), (1, 2), (-1, 2)]
        self.same(comings(stand, 0, [], MOST, ring=True), 0)
        self.same(comings(stand, 0, [1, -1], MOST, ring=True), 0)
        self.same(comings(stand, 1, [1, 1], 3, ring=True), 2)
        self.same(comings([()], 0, [], MOST), 0)

    def test_by_the_words(self):
        chance = random.Random(142)
        came = 0
        for town, _, stand, ring in brute.stands(143):
            stands = brute.beats(stand, 12, ring)
            for folk in range(len(stand)):
                course = [one[folk] for one in stands]
                sides = [cut * chance.choice((1, -1)) for cut in range(1, len(town) + 1) if chance.random() < 0.5]
                sides = chance.choice([sides, sides[::-1], sides + sides[:1]])
                before = list(sides)
                for beats in range(13):
                    due = slow_comings(course, sides, beats)
                    self.same(comings(stand, folk, sides, beats, ring=ring), due)
                    came += due
                    if not ring:
                        self.same(comings(stand, folk, sides, beats), due)
                self.assertEqual(sides, before)
        self.assertGreater(came, 500)

    def test_long_stands(self):
        chance = random.Random(144)
        for stand, ring in brute.long_stands():
            stands = brute.beats(stand, 41, ring)
            for folk in (0, 1, len(stand) // 2, len(stand) - 1):
                course = [one[folk] for one in stands]
                for spot in (course[0], course[1], course[40], course[41]):
                    sides = chance.sample(spot, min(len(spot), 3))
                    for beats in (0, 1, 28, 29, 30, 31, 40, 41):
                        self.same(comings(stand, folk, sides, beats, ring=ring), slow_comings(course, sides, beats))
                    # Behind so many beats all comes again by two.
                    first = slow_comings(course, sides, 39)
                    by_two = slow_comings(course, sides, 41) - first
                    self.same(comings(stand, folk, sides, 39 + MOST // 10, ring=ring), first + by_two * (MOST // 20))


class AlikeFrom(Case):
    def slow(self, stand, other, ring):
        for beats, (one, two) in enumerate(zip(brute.beats(stand, 12, ring), brute.beats(other, 12, ring))):
            if one == two:
                return beats
        return None

    def test_some(self):
        one, two = (1,), (-1,)
        self.same(alike_from([one, two, one], [one, two, one]), 0)
        self.same(alike_from([one, two, one], [one, one, one]), 1)
        self.same(alike_from([one, two, two], [one, one, one]), None)
        self.same(alike_from([one, two, one, one], [one, one, one, one], ring=True), 1)
        self.same(alike_from([one, two, one, two], [one, one, one, one], ring=True), None)
        self.same(alike_from([one, two, one, two], [two, one, two, one], ring=True), None)
        self.same(alike_from([one, two, one, two], [one, two, one, two], ring=True), 0)

    def test_by_the_words(self):
        chance = random.Random(145)
        found = {}
        for _, spots, stand, ring in brute.stands(146, 1500):
            other = list(stand)
            for _ in range(chance.choice((0, 1, 1, 2, 3))):
                other[chance.randrange(len(other))] = chance.choice(spots)
            if chance.random() < 0.2:
                other = brute.beats(other, chance.randint(1, 4), ring)[-1]
            before = list(stand), list(other)
            due = self.slow(stand, other, ring)
            self.same(alike_from(stand, other, ring=ring), due)
            self.same(alike_from(other, stand, ring=ring), due)
            if not ring:
                self.same(alike_from(stand, other), due)
            self.assertEqual((stand, other), before)
            found[due] = found.get(due, 0) + 1
        self.assertGreater(min(found[due] for due in (None, 0, 1, 2)), 20)

    def test_long_stands(self):
        for stand, ring in brute.long_stands():
            last = behind(stand, 10 ** 6, ring=ring)
            due = next((beats for beats, one in enumerate(brute.beats(stand, 40, ring)) if one == last), None)
            # Where all come to rest they are the same from then on, else only where they swing alike.
            if brute.beat(last, ring) == last:
                self.same(alike_from(stand, last, ring=ring), due)
            else:
                self.same(alike_from(stand, brute.beat(stand, ring), ring=ring), None)
            self.same(alike_from(stand, stand, ring=ring), 0)

    def test_one_folk_and_no_cuts(self):
        self.same(alike_from([(1, 2)], [(1, 2)]), 0)
        self.same(alike_from([(1, 2)], [(1, -2)]), None)
        self.same(alike_from([()], [()]), 0)
        self.same(alike_from([(), (), ()], [(), (), ()], ring=True), 0)
