import copy
import itertools
import random
import unittest

from meetrow.beats import beat, behind, first_at, first_meet, held, rest
from tests import brute

FAR = 10 ** 100


def swinging(folk, many=1):
    """A stand of which each two side by side have no side alike."""
    return [tuple(cut if at & 1 else -cut for cut in range(1, many + 1)) for at in range(folk)]


class Case(unittest.TestCase):
    def same(self, told, due):
        self.assertEqual(brute.shape(told), brute.shape(due))


class Beat(Case):
    def test_where_all_go(self):
        a, b, c = (1, 2), (-1, 2), (-1, -2)
        self.same(beat([a, c, b]), [a, b, b])
        self.same(beat([a, c, a, c]), [a, a, c, c])
        self.same(beat([a, c, b], ring=True), [b, b, b])
        self.same(beat([a, c, a, c], ring=True), [c, a, c, a])
        self.same(beat([a, c, b], ring=False), [a, b, b])

    def test_all_go_at_once(self):
        self.same(beat([(1,), (-1,), (1,), (-1,), (-1,)]), [(1,), (1,), (-1,), (-1,), (-1,)])

    def test_rows_of_one_and_of_two_stay(self):
        self.same(beat([(1, -2)]), [(1, -2)])
        self.same(beat([(1, -2), (-1, 2)]), [(1, -2), (-1, 2)])

    def test_beats_by_the_words(self):
        for _, spots, stand, ring in brute.stands(41):
            before = copy.deepcopy(stand)
            told = beat(stand, ring=ring)
            self.same(told, brute.beat(stand, ring))
            self.assertTrue(all(spot in spots for spot in told))
            self.assertEqual(stand, before)
            if not ring:
                self.same(beat(stand), told)

    def test_sixty_folk(self):
        for stand, ring in brute.long_stands():
            self.same(beat(stand, ring=ring), brute.beat(stand, ring))

    def test_no_cuts(self):
        self.same(beat([()]), [()])
        self.same(beat([(), (), ()], ring=True), [(), (), ()])


class Held(Case):
    def test_who_is_held(self):
        stand = [(1, 2), (-1, 2), (1, -2), (-1, 2), (-1, -2)]
        self.same(held(stand, 1), [0, 3, 4])
        self.same(held(stand, 2), [0, 1, 4])
        self.same(held(stand, 1, ring=True), [3, 4])
        self.same(held(stand, 2, ring=True), [0, 1])
        self.same(held(stand[:4], 1, ring=True), [])
        self.same(held(stand[:4], 1), [0, 3])

    def test_ends_of_rows_are_held(self):
        self.same(held([(1,)], 1), [0])
        self.same(held([(1,), (-1,)], 1), [0, 1])
        self.same(held([(1,), (-1,), (1,)], 1), [0, 2])
        self.same(held([(1,), (-1,), (1,)], 1, ring=True), [0, 2])

    def test_held_by_the_words(self):
        found = {True: 0, False: 0}
        for town, _, stand, ring in brute.stands(42):
            for cut in range(1, len(town) + 1):
                told = held(stand, cut, ring=ring)
                self.same(told, brute.held(stand, cut, ring))
                found[told == []] += 1
        self.assertGreater(min(found.values()), 20)

    def test_sixty_folk_and_cuts(self):
        for stand, ring in brute.long_stands():
            for cut in (1, len(stand[0])):
                self.same(held(stand, cut, ring=ring), brute.held(stand, cut, ring))

    def test_what_is_told_is_new(self):
        stand = [(1,), (1,), (1,)]
        held(stand, 1).append(7)
        self.same(held(stand, 1), [0, 1, 2])


class Behind(Case):
    def check(self, stand, ring):
        # Beat by beat all comes again by two beats from the one on that is half as many as the folk.
        slow = brute.beats(stand, len(stand) + 5, ring)
        before = copy.deepcopy(stand)
        for beats, due in enumerate(slow):
            self.same(behind(stand, beats, ring=ring), due)
        even, odd = slow[-2:] if len(slow) & 1 == 0 else slow[:-3:-1]
        for beats in (FAR, FAR - 2, 10 ** 50, 998):
            self.same(behind(stand, beats, ring=ring), even)
        for beats in (FAR - 1, 10 ** 50 + 1, 999):
            self.same(behind(stand, beats, ring=ring), odd)
        self.assertEqual(stand, before)

    def test_no_beats_and_one(self):
        stand = [(1, 2), (-1, -2), (-1, 2)]
        self.same(behind(stand, 0), stand)
        self.same(behind(stand, 0, ring=True), stand)
        self.same(behind(stand, 1), [(1, 2), (-1, 2), (-1, 2)])
        self.same(behind(stand, 1, ring=True), [(-1, 2), (-1, 2), (-1, 2)])
        self.assertIsNot(behind(stand, 0), stand)

    def test_any_beats_by_going_there(self):
        for _, _, stand, ring in brute.stands(43):
            self.check(stand, ring)

    def test_all_stands_of_small_rows_and_rings(self):
        for folk in range(1, 8):
            for sides in itertools.product((1, -1), repeat=folk):
                stand = [(side,) for side in sides]
                self.check(stand, False)
                if folk >= 3:
                    self.check(stand, True)

    def test_sixty_folk(self):
        for stand, ring in brute.long_stands():
            self.check(stand, ring)

    def test_no_cuts_and_sixty(self):
        self.same(behind([()], FAR), [()])
        self.same(behind([(), (), ()], FAR - 1, ring=True), [(), (), ()])
        stand = swinging(3, 60)
        self.same(behind(stand, FAR), [stand[0]] * 3)
        stand = swinging(4, 60)
        self.same(behind(stand, FAR - 1, ring=True), stand[1:] + stand[:1])

    def test_rings_that_swing_and_rows_that_do_not(self):
        ring = swinging(6)
        self.same(behind(ring, FAR, ring=True), ring)
        self.same(behind(ring, FAR - 1, ring=True), ring[1:] + ring[:1])
        self.same(behind(ring, FAR), [(-1,)] * 3 + [(1,)] * 3)
        self.same(behind(ring, FAR - 1), [(-1,)] * 3 + [(1,)] * 3)

    def test_what_is_told_is_new(self):
        stand = [(1,), (1,), (1,)]
        behind(stand, 3).append(())
        beat(stand).append(())
        self.same(behind(stand, 3), [(1,), (1,), (1,)])
        self.same(stand, [(1,), (1,), (1,)])


class Rest(Case):
    def slow(self, stand, ring):
        cuts = range(1, len(stand[0]) + 1)
        swing = [cut for cut in cuts if not brute.held(stand, cut, ring)]
        kept = [cut for cut in cuts if cut not in swing]
        slow = [[[spot[cut - 1] for cut in kept] for spot in one] for one in brute.beats(stand, len(stand) + 3, ring)]
        return min(beat for beat in range(len(slow)) if all(one == slow[-1] for one in slow[beat:])), swing

    def test_rest_by_the_words(self):
        found = {}
        for _, _, stand, ring in brute.stands(44, 500):
            due = self.slow(stand, ring)
            told = rest(stand, ring=ring)
            self.same(told, due)
            self.assertLessEqual(told[0], (len(stand) - 1) // 2)
            found[(told[0] > 0, told[1] != [])] = True
            if not ring:
                self.same(rest(stand), told)
        self.assertEqual(len(found), 4)

    def test_latest(self):
        for folk in range(1, 61):
            self.same(rest(swinging(folk, 2)), ((folk - 1) // 2, []))
            if folk >= 3:
                self.same(rest(swinging(folk), ring=True), (folk // 2, []) if folk & 1 else (0, [1]))

    def test_rings_that_swing_at_some_cuts(self):
        stand = [(1, 2, 3), (-1, 2, -3), (1, -2, 3), (-1, 2, -3), (1, -2, 3), (-1, 2, -3)]
        self.same(rest(stand, ring=True), (2, [1, 3]))
        self.same(rest(stand), (2, []))
        self.same(rest([(1, 2), (-1, 2), (1, 2), (-1, 2)], ring=True), (0, [1]))

    def test_sixty_folk(self):
        for stand, ring in brute.long_stands():
            self.same(rest(stand, ring=ring), self.slow(stand, ring))

    def test_no_cuts(self):
        self.same(rest([()]), (0, []))
        self.same(rest([(), (), (), ()], ring=True), (0, []))

    def test_what_is_told_is_new(self):
        stand = swinging(4)
        rest(stand, ring=True)[1].append(7)
        self.same(rest(stand, ring=True), (0, [1]))


class First(Case):
    def first(self, stands, holds):
        return next((beats for beats, stand in enumerate(stands) if holds(stand)), None)

    def test_first_at_by_going_there(self):
        found = {}
        for _, spots, stand, ring in brute.stands(45):
            slow = brute.beats(stand, len(stand) + 6, ring)
            for folk in range(len(stand)):
                for spot in spots:
                    due = self.first(slow, lambda there: there[folk] == spot)
                    self.same(first_at(stand, folk, spot, ring=ring), due)
                    found[due] = found.get(due, 0) + 1
        for due in (None, 0, 1, 2):
            self.assertGreater(found[due], 5)

    def test_first_meet_by_going_there(self):
        found = {}
        for _, _, stand, ring in brute.stands(46):
            slow = brute.beats(stand, len(stand) + 6, ring)
            for one, other in itertools.product(range(len(stand)), repeat=2):
                due = self.first(slow, lambda there: there[one] == there[other])
                self.same(first_meet(stand, one, other, ring=ring), due)
                found[due] = found.get(due, 0) + 1
        for due in (None, 0, 1, 2):
            self.assertGreater(found[due], 5)

    def test_one_told_twice(self):
        for stand, ring in (([()], False), (swinging(4), True), (swinging(7), False)):
            for folk in range(len(stand)):
                self.same(first_meet(stand, folk, folk, ring=ring), 0)

    def test_never(self):
        self.assertIsNone(first_at([(1,), (-1,)], 0, (-1,)))
        self.assertIsNone(first_meet([(1,), (-1,)], 0, 1))
        self.assertIsNone(first_meet(swinging(6), 0, 5))
        self.assertIsNone(first_meet(swinging(6), 0, 1, ring=True))
        self.assertIsNone(first_at([(1, 2), (-1, 2), (1, 2), (-1, 2)], 0, (1, -2), ring=True))

    def test_swinging_and_late(self):
        ring = swinging(6)
        self.same(first_at(ring, 2, (-1,), ring=True), 0)
        self.same(first_at(ring, 2, (1,), ring=True), 1)
        row = swinging(60, 2)
        self.same(first_at(row, 29, (-1, -2)), 1)
        self.same(first_at(row, 29, (1, 2)), 0)
        self.same(first_meet(row, 28, 29), 29)
        self.same(first_meet(row, 29, 30), None)
        self.same(first_meet(row, 0, 29), 1)
        self.same(first_meet(row, 30, 59), 1)

    def test_at_the_beat_behind_the_rest(self):
        stand = [(1, 2), (-1, 2), (1, 2), (-1, -2)]
        slow = brute.beats(stand, 9, True)
        self.same(rest(stand, ring=True), (1, [1]))
        self.same(first_at(stand, 3, (-1, 2), ring=True), 2)
        self.same(self.first(slow, lambda there: there[3] == (-1, 2)), 2)

    def test_nothing_is_changed(self):
        chance = random.Random(47)
        for _, spots, stand, ring in brute.stands(48, 50):
            before = copy.deepcopy(stand)
            first_at(stand, 0, chance.choice(spots), ring=ring)
            first_meet(stand, 0, len(stand) - 1, ring=ring)
            rest(stand, ring=ring)
            self.assertEqual(stand, before)
