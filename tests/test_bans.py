import copy
import itertools
import unittest

from meetrow.bans import are_bans, is_nothing, led, nothing, road
from tests import brute


class AreBans(unittest.TestCase):
    def test_bans(self):
        for many, thing in [
            (0, []), (1, []), (60, []), (2, [(1, 2)]), (2, [(-2, 1)]), (2, [(1, 2), (1, 2), (2, 1)]),
            (60, [(60, -59)]), (60, [(-60, 1)]), (2, [(1, 2)] * 2000),
        ]:
            with self.subTest(many=many, thing=thing[:3]):
                self.assertIs(are_bans(many, thing), True)

    def test_no_bans(self):
        for many, thing in [
            (2, [(1, 2)] * 2001), (2, ((1, 2),)), (2, [[1, 2]]), (2, [(1, 1)]), (2, [(1, -1)]), (2, [(0, 1)]),
            (2, [(1, 0)]), (2, [(1, 3)]), (2, [(-3, 1)]), (2, [(1,)]), (2, [(1, 2, 2)]), (2, [()]), (2, [(True, 2)]),
            (2, [(2, True)]), (2, [(False, 2)]), (2, [("1", 2)]), (2, [(1, None)]), (2, [(1, 2), None]),
            (2, [(1, [2])]), (2, [((1,), 2)]), (0, [(1, 2)]), (1, [(1, 2)]), (60, [(61, 1)]), (60, [(1, -61)]),
            (2, [(10 ** 59, 1)]), (2, "ab"), (2, {}), (2, 0), (2, None), (2, ()), (2, True),
        ]:
            with self.subTest(many=many, thing=str(thing)[:40]):
                self.assertIs(are_bans(many, thing), False)

    def test_no_number_of_cuts(self):
        for many in (True, False, -1, 61, None, "2", (), [], [2], 10 ** 59, -10 ** 59):
            with self.subTest(many=many):
                self.assertIs(are_bans(many, []), False)

    def test_anything(self):
        for thing in brute.THINGS + [brute.nested(100), brute.nested(100, lambda inner: (inner, 1))]:
            self.assertIs(are_bans(3, thing), thing == [])
            self.assertIs(are_bans(3, [(1, 2), thing]), False)
            self.assertIs(are_bans(3, [(1, thing)]), brute.shape(thing) == ("int", -2))
        self.assertIs(are_bans(2, [(-1, 2)]), True)


class Roads(unittest.TestCase):
    def test_a_ban_leads_both_ways(self):
        self.assertEqual(led(3, [(1, 2)], 1), [1, -2])
        self.assertEqual(led(3, [(1, 2)], 2), [-1, 2])
        self.assertEqual(led(3, [(1, 2)], -1), [-1])
        self.assertEqual(led(3, [(1, 2)], 3), [3])
        self.assertEqual(led(3, [(3, 2), (-2, 1)], 3), [-1, -2, 3])

    def test_sides_rise_by_cuts_the_one_above_nought_first(self):
        self.assertEqual(led(4, [(4, 3), (4, 2), (-2, 1), (4, -3)], 4), [-1, -2, 3, -3, 4, -4])
        self.assertEqual(led(2, [(2, 1), (2, -1), (1, -2), (-2, 1)], 1), [1, -1, 2, -2])

    def test_led_is_what_grows(self):
        for many, bans in brute.many_bans(1):
            for side in brute.sides(many):
                found = led(many, bans, side)
                self.assertEqual(found, brute.led(bans, side))
                self.assertIsInstance(found, list)

    def test_roads(self):
        for many, bans in brute.many_bans(2, 200):
            before = copy.deepcopy(bans)
            for side, other in itertools.product(brute.sides(many), repeat=2):
                found = road(many, bans, side, other)
                if other in brute.led(bans, side):
                    self.assertIsInstance(found, list)
                    self.assertTrue(brute.is_road(bans, side, other, found))
                else:
                    self.assertIsNone(found)
            self.assertEqual(bans, before)

    def test_a_side_to_itself(self):
        self.assertEqual(road(1, [], 1, 1), [])
        self.assertEqual(road(2, [(1, 2), (-2, -1)], -2, -2), [])
        self.assertIsNone(road(1, [], 1, -1))

    def test_road_by_numbers_from_nought(self):
        bans = [(4, 3), (1, 2), (-2, 3), (-3, -4)]
        self.assertEqual(road(4, bans, 1, 4), [1, 2, 3])
        self.assertEqual(road(4, bans, -4, -1), [3, 2, 1])
        self.assertIsNone(road(4, bans, -1, 4))

    def test_sixty_cuts(self):
        bans = [(cut, -cut - 1) for cut in range(1, 60)]
        self.assertEqual(led(60, bans, 1), list(range(1, 61)))
        self.assertEqual(led(60, bans, -60), list(range(-1, -61, -1)))
        self.assertEqual(road(60, bans, 1, 60), list(range(59)))
        self.assertEqual(road(60, bans, -60, -1), list(range(58, -1, -1)))

    def test_two_thousand_bans(self):
        bans = [(1, 2)] * 1999 + [(-2, 3)]
        self.assertEqual(led(3, bans, 1), [1, -2, -3])
        self.assertTrue(brute.is_road(bans, 1, -3, road(3, bans, 1, -3)))

    def test_what_is_told_is_new(self):
        bans = [(1, 2)]
        led(2, bans, 1).append(9)
        road(2, bans, 1, -2).append(9)
        self.assertEqual(led(2, bans, 1), [1, -2])
        self.assertEqual(road(2, bans, 1, -2), [0])
        self.assertEqual(bans, [(1, 2)])


class Nothing(unittest.TestCase):
    BANS = [(1, 2), (1, -2), (-1, 3), (-1, -3)]

    def test_told_just_where_nothing_is_let(self):
        none = 0
        for many, bans in brute.many_bans(3, 900, 4, 12):
            paper = nothing(many, bans)
            if brute.let(many, bans):
                self.assertIsNone(paper)
                continue
            none += 1
            self.assertIsInstance(paper, tuple)
            side, there, back = paper
            self.assertIn(side, brute.sides(many))
            self.assertIsInstance(there, tuple)
            self.assertIsInstance(back, tuple)
            self.assertTrue(brute.is_road(bans, side, -side, there))
            self.assertTrue(brute.is_road(bans, -side, side, back))
            self.assertIs(is_nothing(many, bans, paper), True)
        self.assertGreater(none, 50)

    def test_no_cuts_and_no_bans(self):
        self.assertIsNone(nothing(0, []))
        self.assertIsNone(nothing(60, []))
        self.assertIs(is_nothing(0, [], (1, (), ())), False)

    def test_sixty_cuts(self):
        bans = [(cut, -cut - 1) for cut in range(1, 60)] + [(60, 1), (-60, -1), (-1, 60), (1, -60)]
        self.assertIs(is_nothing(60, bans, nothing(60, bans)), True)
        self.assertIsNone(nothing(60, bans[:-2]))

    def test_papers(self):
        self.assertIs(is_nothing(3, self.BANS, (1, (0, 1), (2, 3))), True)
        self.assertIs(is_nothing(3, self.BANS, (1, (1, 0), (3, 2))), True)
        self.assertIs(is_nothing(3, self.BANS, (-1, (2, 3), (0, 1))), True)
        self.assertIs(is_nothing(3, self.BANS, (1, (0, 1, 2, 3, 0, 1), (2, 3))), True)
        self.assertIs(is_nothing(3, self.BANS, (2, (0, 2, 3, 0), (1, 2, 3, 1))), True)
        self.assertIs(is_nothing(3, self.BANS, (2, (0, 2, 3, 1), (1, 2, 3, 0))), False)

    def test_no_papers(self):
        for thing in brute.THINGS + [
            brute.nested(100), [1, (0, 1), (2, 3)], (1, [0, 1], (2, 3)), (1, (0, 1), [2, 3]), (1, (0, 1)),
            (1, (0, 1), (2, 3), ()), (True, (0, 1), (2, 3)), (1, (False, 1), (2, 3)), (1, (0, True), (2, 3)),
            (0, (), ()), (4, (), ()), (-4, (), ()), ("1", (0, 1), (2, 3)), (None, (0, 1), (2, 3)), (1, (), ()),
            (1, (0,), (2, 3)), (1, (0, 1), (2,)), (1, (0, 1), ()), (1, (), (2, 3)), (1, (0, 4), (2, 3)),
            (1, (0, -3), (2, 3)), (1, (0, 1), (2, -1)), (1, (-4, 1), (2, 3)), (1, (0, 10 ** 59), (2, 3)),
            (1, (2, 3), (0, 1)), (-1, (0, 1), (2, 3)), (1, (0, 1, 0), (2, 3)), (1, (0, (1,)), (2, 3)),
            (1, ("0", 1), (2, 3)), (1, (0, None), (2, 3)), (1, 0, 2), (1, "01", "23"), (3, (0, 1), (2, 3)),
            ((1,), (0, 1), (2, 3)), (1, ((0, 1),), (2, 3)), (1, (0, 1), None), (10 ** 59, (0, 1), (2, 3)),
        ]:
            with self.subTest(thing=str(thing)[:60]):
                self.assertIs(is_nothing(3, self.BANS, thing), False)

    def test_is_nothing_as_the_words_say(self):
        bans = [(1, 2), (-2, 1), (-1, 2), (-1, -2)]
        roads = [numbers for long in range(4) for numbers in itertools.product(range(4), repeat=long)]

        def walk(side, numbers):
            for number in numbers:
                if side not in bans[number]:
                    return None
                one, two = bans[number]
                side = -two if side == one else -one
            return side

        for side in (1, -1, 2, -2):
            for there in roads:
                for back in roads[:21]:
                    due = walk(side, there) == -side and walk(-side, back) == side
                    self.assertIs(is_nothing(2, bans, (side, there, back)), due)
