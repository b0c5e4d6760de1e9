import copy
import itertools
import unittest

from meetrow.errors import NoBans, NotPlain, TooMany
from meetrow.plain import plain
from meetrow.towns import Town
from tests import brute


def path(long, first=1):
    """The bans of a path of so many streets, of cuts from the first on."""
    cuts = range(first, first + long)
    return [(-one, other) for one in cuts for other in cuts if one < other]


def block():
    """A town of 500 spots: a block of paths of 4, 5, 5 and 5 spots."""
    return Town(15, path(3) + path(4, 4) + path(4, 8) + path(4, 12))


class Made(unittest.TestCase):
    def refused(self, many, bans, error, **fields):
        with self.assertRaises(error) as caught:
            Town(many, bans)
        self.assertEqual(brute.shape(list(vars(caught.exception).items())), brute.shape(list(fields.items())))

    def test_no_bans(self):
        for many, bans in [
            (True, []), (False, []), (-1, []), (61, []), (None, []), ("3", []), ([], []), ((), []), (10 ** 59, []),
            (3, ()), (3, None), (3, ((1, 2),)), (3, [[1, 2]]), (3, [(1, -1)]), (3, [(1, 1)]), (3, [(0, 1)]),
            (3, [(1, 4)]), (3, [(True, 2)]), (3, [(1, 2, 3)]), (3, "ab"), (3, [(1, 2)] * 2001), (0, [(1, 2)]),
            (3, [(1, 2), (1, -2), (3, 3)]),
        ]:
            with self.subTest(many=many, bans=str(bans)[:40]):
                self.refused(many, bans, NoBans)

    def test_no_bans_of_anything(self):
        for thing in brute.THINGS + [brute.nested(100)]:
            if thing != []:
                self.refused(3, thing, NoBans)
            if brute.shape(thing) not in (("int", 0), ("int", 7)):
                self.refused(thing, [], NoBans)
            self.refused(3, [thing], NoBans)

    def test_not_plain(self):
        self.refused(3, [(1, 2), (1, -2), (-1, 3), (-1, -3)], NotPlain, word="nothing", cut=0)
        self.refused(3, [(2, 3), (2, -3)], NotPlain, word="onesided", cut=2)
        self.refused(3, [(-2, 3), (-2, -3)], NotPlain, word="onesided", cut=2)
        self.refused(2, [(-1, 2), (-1, -2)], NotPlain, word="onesided", cut=1)
        self.refused(3, [(2, 3), (-2, -3)], NotPlain, word="alike", cut=3)
        self.refused(4, [(1, -4), (-1, 4), (2, -3), (-2, 3)], NotPlain, word="alike", cut=3)
        self.refused(2, [(1, 2), (-1, -2)], NotPlain, word="alike", cut=2)

    def test_which_of_several_is_told(self):
        alike = [(1, 2), (-1, -2)]
        onesided = [(3, 4), (3, -4)]
        nothing = onesided + [(-3, 5), (-3, -5)]
        self.refused(5, alike + onesided, NotPlain, word="onesided", cut=3)
        self.refused(5, alike + onesided + nothing, NotPlain, word="nothing", cut=0)
        self.refused(5, alike + onesided + nothing + [(1, 1)], NoBans)
        self.refused(5, [(5, 3), (5, -3), (4, 3), (4, -3)], NotPlain, word="onesided", cut=4)
        self.refused(5, [(5, 3), (-5, -3), (4, 2), (-4, -2)], NotPlain, word="alike", cut=4)

    def test_refusals_as_told_by_the_settings(self):
        told = {}
        for many, bans in brute.many_bans(5, 1500, 5, 9):
            spots = brute.let(many, bans)
            columns = [[spot[cut] > 0 for spot in spots] for cut in range(many)]
            onesided = [cut for cut, column in enumerate(columns, 1) if len(set(column)) == 1]
            alike = [cut for cut, column in enumerate(columns, 1)
                     if column in columns[:cut - 1] or [not on for on in column] in columns[:cut - 1]]
            if not spots:
                due = ("nothing", 0)
            elif onesided:
                due = ("onesided", onesided[0])
            elif alike:
                due = ("alike", alike[0])
            else:
                Town(many, bans)
                continue
            told[due[0]] = told.get(due[0], 0) + 1
            self.refused(many, bans, NotPlain, word=due[0], cut=due[1])
        self.assertGreater(min(told.values()), 20)
        self.assertEqual(len(told), 3)

    def test_edges_that_are_towns(self):
        self.assertEqual(len(Town(0, [])), 0)
        self.assertEqual(len(Town(60, [])), 60)
        self.assertEqual(len(Town(60, path(60))), 60)
        self.assertEqual(Town(2, [(1, 2)] * 2000).bans(), [(1, 2)])

    def test_bans_are_copied_and_not_changed(self):
        bans = [(2, 1), (3, 2)]
        before = copy.deepcopy(bans)
        town = Town(3, bans)
        self.assertEqual(bans, before)
        bans.append((1, 3))
        self.assertEqual(town, Town(3, before))
        self.assertEqual(town.bans(), [(1, 2), (2, 3)])


class Tellings(unittest.TestCase):
    def test_bans_are_in_plain_form(self):
        for town, _ in brute.plain_towns(6):
            self.assertEqual((len(town), town.bans()), plain(len(town), town.bans())[:2])
        self.assertEqual(Town(3, [(3, -2), (2, 1)]).bans(), [(1, 2), (1, 3), (-2, 3)])

    def test_equality(self):
        self.assertTrue(Town(3, [(2, 1), (3, -2)]) == Town(3, [(1, 2), (1, 3), (-2, 3)]))
        self.assertFalse(Town(3, [(2, 1), (3, -2)]) != Town(3, [(1, 2), (1, 3), (-2, 3)]))
        self.assertFalse(Town(3, [(1, 2)]) == Town(3, [(1, -2)]))
        self.assertFalse(Town(3, [(1, 2)]) == Town(4, [(1, 2)]))
        self.assertTrue(Town(0, []) == Town(0, []))
        self.assertFalse(Town(0, []) == Town(1, []))
        for thing in brute.THINGS:
            self.assertFalse(Town(0, []) == thing)
            self.assertTrue(Town(0, []) != thing)

    def test_length_is_a_number(self):
        for many in (0, 1, 2, 59, 60):
            self.assertEqual(len(Town(many, [])), many)

    def test_text(self):
        self.assertEqual(str(Town(0, [])), "town 0")
        self.assertEqual(str(Town(60, [])), "town 60")
        self.assertEqual(str(Town(3, [(3, -2), (2, 1)])), "town 3\nban 1 2\nban 1 3\nban -2 3")

    def test_spots(self):
        self.assertEqual(Town(0, []).spots(), [()])
        self.assertEqual(Town(1, []).spots(), [(1,), (-1,)])
        self.assertEqual(Town(2, []).spots(), [(1, 2), (1, -2), (-1, 2), (-1, -2)])
        for town, spots in brute.plain_towns(7):
            self.assertEqual(brute.shape(town.spots()), brute.shape(spots))

    def test_five_hundred_spots_are_told_and_one_more_refused(self):
        town = block()
        spots = town.spots()
        self.assertEqual(len(spots), 500)
        self.assertEqual(spots, sorted(set(spots), key=lambda spot: [side < 0 for side in spot]))
        for end in (spots[0], spots[7], spots[-1]):
            # One spot more, at the end of a street from a spot of the block.
            more = Town(16, town.bans() + [(16, -side) for side in end])
            beside = [one for spot in spots for one in (spot + (16,), spot + (-16,)) if more.is_spot(one)]
            self.assertEqual(len(beside), 501)
            self.refused_as_too_many(more)

    def refused_as_too_many(self, town):
        with self.assertRaises(TooMany) as caught:
            town.spots()
        self.assertEqual(vars(caught.exception), {"most": 500})

    def test_many_more_spots_are_refused_soon(self):
        self.assertEqual(len(Town(8, []).spots()), 256)
        self.refused_as_too_many(Town(9, []))
        self.refused_as_too_many(Town(60, []))

    def test_sixty_cuts_with_few_spots(self):
        spots = Town(60, path(60)).spots()
        self.assertEqual(len(spots), 61)
        self.assertEqual(spots[0], tuple(range(1, 61)))
        self.assertEqual(spots[-1], tuple(range(-1, -61, -1)))

    def test_is_spot(self):
        for town, spots in brute.plain_towns(8, 100, 4):
            for one in brute.settings(len(town)):
                self.assertIs(town.is_spot(one), one in spots)

    def test_is_spot_of_anything(self):
        town = Town(3, [(1, 2)])
        self.assertIs(town.is_spot((1, -2, 3)), True)
        for thing in brute.THINGS + [
            brute.nested(100), (1, 2, 3), [1, -2, 3], (1, -2), (1, -2, 3, 4), (True, -2, 3), (1, -2, "3"), (1, -2, None),
            (-2, 1, 3), (1, -2, 0), (1, -2, 4), (1, -2, 10 ** 59), (1, (-2,), 3), (1, -3, 2), (1, 1, 1), "abc",
            (1, -2, [3]), ((1, -2, 3),), (0, 0, 0), (1, False, 3),
        ]:
            with self.subTest(thing=str(thing)[:60]):
                self.assertIs(town.is_spot(thing), False)
        self.assertIs(Town(0, []).is_spot(()), True)
        self.assertIs(Town(0, []).is_spot([]), False)
        self.assertIs(Town(1, []).is_spot((True,)), False)

    def test_follows(self):
        for town, spots in brute.plain_towns(9):
            for side in brute.sides(len(town)):
                on = [spot for spot in spots if side in spot]
                due = [other for other in brute.sides(len(town)) if all(other in spot for spot in on)]
                self.assertEqual(brute.shape(town.follows(side)), brute.shape(due))
        self.assertEqual(Town(60, path(60)).follows(60), list(range(1, 61)))
        self.assertEqual(Town(60, path(60)).follows(-60), [-60])

    def test_what_is_told_is_new(self):
        town = Town(3, [(1, 2)])
        town.bans().append((1, 3))
        town.follows(1).append(3)
        town.spots().append((1, 2, 3))
        self.assertEqual(town, Town(3, [(1, 2)]))
        self.assertEqual(town.bans(), [(1, 2)])
        self.assertEqual(town.follows(1), [1, -2])
        self.assertEqual(len(town.spots()), 6)


class SpotOnAndClash(unittest.TestCase):
    def check(self, town, spots, sides):
        before = list(sides)
        spot, clash = town.spot_on(sides), town.clash(sides)
        on = [one for one in spots if all(side in one for side in sides)]
        if on:
            self.assertIn(brute.shape(spot), [brute.shape(one) for one in on])
            self.assertIsNone(clash)
        else:
            self.assertIsNone(spot)
            self.assertIsInstance(clash, tuple)
            one, other = clash
            self.assertIn(one, sides)
            self.assertIn(other, sides)
            self.assertFalse([spot for spot in spots if one in spot and other in spot])
        self.assertEqual(sides, before)
        self.assertEqual(town.spot_on(sides), spot)
        self.assertEqual(town.clash(sides), clash)

    def test_all_lists_of_up_to_three_sides(self):
        for town, spots in brute.plain_towns(10, 60, 4):
            for long in range(4):
                for sides in itertools.product(brute.sides(len(town)), repeat=long):
                    self.check(town, spots, list(sides))

    def test_a_side_and_its_other_one(self):
        town = Town(2, [])
        self.assertIn(town.clash([1, 2, -1]), [(1, -1), (-1, 1)])
        self.assertIsNone(town.spot_on([1, 2, -1]))
        self.assertIsNone(town.clash([1, 1, 2, 1]))
        self.assertEqual(town.spot_on([2, -1, 2]), (-1, 2))

    def test_no_sides_and_no_cuts(self):
        self.assertEqual(Town(0, []).spot_on([]), ())
        self.assertIsNone(Town(0, []).clash([]))
        self.assertIn(Town(2, [(1, 2)]).spot_on([]), [(1, -2), (-1, 2), (-1, -2)])

    def test_sixty_cuts(self):
        town = Town(60, path(60))
        self.assertEqual(town.spot_on([-31, 30]), tuple(range(1, 31)) + tuple(range(-31, -61, -1)))
        self.assertIsNone(town.spot_on([5, 60, -30, 12]))
        self.assertEqual(set(town.clash([5, 60, -30, 12])), {60, -30})
