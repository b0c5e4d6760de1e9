import itertools
import random
import unittest

from meetrow.errors import NoNumber, TooMany
from meetrow.rests import is_at_rest, rest_at, rests
from meetrow.towns import Town
from tests import brute
from tests.test_towns import path


def all_stands(spots, folk):
    """All stands of so many folk, rising."""
    return [list(stand) for stand in itertools.product(spots, repeat=folk)]


def small(seed, count=20, most=5):
    """Pairs of a town of at most so many spots and these."""
    return [(town, spots) for town, spots in brute.plain_towns(seed, count * 6, 3, 5) if len(spots) <= most][:count]


class Case(unittest.TestCase):
    def same(self, told, due):
        self.assertEqual(brute.shape(told), brute.shape(due))

    def refused(self, error, fields, asked, *handed, **named):
        with self.assertRaises(error) as caught:
            asked(*handed, **named)
        self.same(list(vars(caught.exception).items()), list(fields.items()))


class AtRest(Case):
    def test_at_rest(self):
        self.assertIs(is_at_rest([(1, 2), (1, -2), (-1, -2)]), True)
        self.assertIs(is_at_rest([(1, 2), (-1, -2), (1, -2)]), False)
        self.assertIs(is_at_rest([(1, 2), (1, -2), (-1, -2)], ring=True), False)
        self.assertIs(is_at_rest([(1, 2), (1, -2), (-1, -2), (-1, 2)], ring=True), True)
        self.assertIs(is_at_rest([(1,), (-1,), (1,), (-1,)], ring=True), False)

    def test_rows_of_one_and_two_and_no_cuts(self):
        for stand in ([(1,)], [(1,), (-1,)], [()], [(), (), ()]):
            self.assertIs(is_at_rest(stand), True)
        self.assertIs(is_at_rest([(), (), ()], ring=True), True)

    def test_at_rest_by_the_words(self):
        found = {True: 0, False: 0}
        for _, _, stand, ring in brute.stands(61, 600, 5):
            due = brute.beat(stand, ring) == stand
            self.assertIs(is_at_rest(stand, ring=ring), due)
            found[due] += 1
            if not ring:
                self.assertIs(is_at_rest(stand), due)
        self.assertGreater(min(found.values()), 50)

    def test_sixty_folk(self):
        for stand, ring in brute.long_stands():
            self.assertIs(is_at_rest(stand, ring=ring), brute.beat(stand, ring) == stand)
            self.assertIs(is_at_rest(brute.beats(stand, 30, False)[-1]), True)


class Rests(Case):
    def check(self, town, spots, folk, ring):
        due = [stand for stand in all_stands(spots, folk) if brute.beat(stand, ring) == stand]
        self.same(rests(town, folk, ring=ring), len(due))
        for number, stand in enumerate(due):
            self.same(rest_at(town, folk, number, ring=ring), stand)
        for number in (-1, len(due), len(due) + 1, -len(due), 10 ** 59, -10 ** 59):
            self.refused(NoNumber, {"many": len(due)}, rest_at, town, folk, number, ring=ring)
        if not ring:
            self.same(rests(town, folk), len(due))
            self.same(rest_at(town, folk, 0), due[0])

    def test_all_rests_of_small_rows(self):
        for town, spots in small(62):
            for folk in range(1, 5):
                self.check(town, spots, folk, False)

    def test_all_rests_of_small_rings(self):
        for town, spots in small(63, 15, 4):
            for folk in range(3, 6):
                self.check(town, spots, folk, True)

    def test_towns_of_many_spots(self):
        self.check(Town(4, []), brute.settings(4), 2, False)
        self.check(Town(3, []), brute.settings(3), 3, True)
        self.check(Town(7, path(7)), brute.let(7, path(7)), 3, True)

    def test_no_cuts(self):
        self.check(Town(0, []), [()], 1, False)
        self.check(Town(0, []), [()], 60, False)
        self.check(Town(0, []), [()], 3, True)
        self.check(Town(0, []), [()], 12, True)

    def by_sides(self, folk, ring):
        """How many rows or rings of sides of one cut are at rest: none stands between two of the other side."""
        if folk <= 12:
            return len([stand for stand in all_stands([(1,), (-1,)], folk) if brute.beat(stand, ring) == stand])
        # From one to the next row: those that end by two alike may go on by both, the others by the same side alone.
        alike, unlike = 2, 2
        for _ in range(folk - 2):
            alike, unlike = alike + unlike, alike
        return alike + unlike

    def test_each_cut_is_at_rest_by_itself(self):
        for folk in (1, 2, 3, 7, 12, 13, 59, 60):
            self.same(rests(Town(1, []), folk), self.by_sides(folk, False))
            self.same(rests(Town(4, []), folk), self.by_sides(folk, False) ** 4)
        for folk in range(3, 13):
            self.same(rests(Town(1, []), folk, ring=True), self.by_sides(folk, True))
            self.same(rests(Town(3, []), folk, ring=True), self.by_sides(folk, True) ** 3)

    def test_sixty_folk_rise_by_their_numbers(self):
        chance = random.Random(64)
        for town in (Town(4, []), Town(15, path(15))):
            spots = town.spots()
            many = rests(town, 60)
            self.assertEqual(len(spots), 16)
            self.same(rest_at(town, 60, 0), [spots[0]] * 60)
            self.same(rest_at(town, 60, many - 1), [spots[-1]] * 60)
            for number in (-1, many, many + 1):
                self.refused(NoNumber, {"many": many}, rest_at, town, 60, number)
            numbers = sorted([chance.randrange(many) for _ in range(20)] + [1, 2, many - 2])
            told = [rest_at(town, 60, number) for number in numbers]
            places = [[spots.index(spot) for spot in stand] for stand in told]
            self.assertEqual(places, sorted(places))
            for stand, number in zip(told, numbers):
                self.assertEqual(brute.beat(stand, False), stand)
                self.same(rest_at(town, 60, number), stand)

    def test_twelve_folk_in_rings(self):
        chance = random.Random(65)
        for town in (Town(3, []), Town(7, path(7))):
            spots = town.spots()
            many = rests(town, 12, ring=True)
            self.same(rest_at(town, 12, 0, ring=True), [spots[0]] * 12)
            self.same(rest_at(town, 12, many - 1, ring=True), [spots[-1]] * 12)
            self.refused(NoNumber, {"many": many}, rest_at, town, 12, many, ring=True)
            for number in [chance.randrange(many - 1) for _ in range(6)]:
                one, other = rest_at(town, 12, number, ring=True), rest_at(town, 12, number + 1, ring=True)
                self.assertEqual(brute.beat(one, True), one)
                self.assertLess([spots.index(spot) for spot in one], [spots.index(spot) for spot in other])

    def test_too_many(self):
        sixteen, seventeen = Town(15, path(15)), Town(16, path(16))
        eight, nine = Town(7, path(7)), Town(8, path(8))
        self.same(rests(sixteen, 1), 16)
        self.same(rests(eight, 1), 8)
        self.same(rests(nine, 1), 9)
        self.assertEqual(len(rest_at(eight, 3, 0, ring=True)), 3)
        for town in (seventeen, Town(5, []), Town(60, []), Town(60, path(60))):
            self.refused(TooMany, {"most": 16}, rests, town, 2)
            for number in (0, -1, 10 ** 59):
                self.refused(TooMany, {"most": 16}, rest_at, town, 2, number)
        for town in (nine, Town(4, []), seventeen, Town(60, [])):
            self.refused(TooMany, {"most": 8}, rests, town, 3, ring=True)
            for number in (0, -1, 10 ** 59):
                self.refused(TooMany, {"most": 8}, rest_at, town, 3, number, ring=True)

    def test_what_is_told_is_new(self):
        town = Town(1, [])
        rest_at(town, 3, 0).append(())
        self.same(rest_at(town, 3, 0), [(1,), (1,), (1,)])
