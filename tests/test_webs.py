import copy
import itertools
import random
import unittest

from meetrow.errors import NotPlain, NoWeb, TooMany
from meetrow.towns import Town
from meetrow.ways import apart
from meetrow.webs import town_of_web, web_of
from tests import brute
from tests.test_towns import path

NONE = 99


def far(many, streets):
    """How far each two spots are, by way of each one in turn."""
    found = [[0 if one == other else NONE for other in range(many)] for one in range(many)]
    for one, other in streets:
        found[one][other] = found[other][one] = 1
    for middle, one, other in itertools.product(range(many), repeat=3):
        found[one][other] = min(found[one][other], found[one][middle] + found[middle][other])
    return found


def unmet(many, streets):
    """What is told of a web that is none of a town, None of the others; straight from the words."""
    known = far(many, streets)
    for one, other in itertools.combinations(range(many), 2):
        if known[one][other] >= NONE:
            return ("apart", one, other)
    for three in itertools.combinations(range(many), 3):
        meets = [spot for spot in range(many)
                 if all(known[one][spot] + known[spot][other] == known[one][other]
                        for one, other in itertools.combinations(three, 2))]
        if len(meets) != 1:
            return ("three", *three, meets)
    return None


def round_of(many):
    return [(at, (at + 1) % many) for at in range(many)]


def grown(chance, most):
    """The web of a town of many spots, its spots numbered anyhow, its streets in any order and either way about."""
    spots = []
    while not most // 2 <= len(spots) <= most:
        # Each two deeds are let both, or the later is never done without the earlier, or never with it.
        many = chance.randint(most // 4, most - 1)
        kinds = {pair: chance.choice(("both", "clash", "cause")) for pair in itertools.combinations(range(1, many + 1), 2)}
        bans = [(one, other) for (one, other), kind in kinds.items() if kind == "clash"]
        bans += [(-one, other) for (one, other), kind in kinds.items() if kind == "cause"]
        try:
            spots = Town(many, bans).spots()
        except (NotPlain, TooMany):
            continue
    numbers = chance.sample(range(len(spots)), len(spots))
    streets = [(numbers[one], numbers[other]) for one, other in itertools.combinations(range(len(spots)), 2)
               if apart(spots[one], spots[other]) == 1]
    streets = [street[::chance.choice((1, -1))] for street in streets]
    return len(spots), chance.sample(streets, len(streets))


class Case(unittest.TestCase):
    def same(self, told, due):
        self.assertEqual(brute.shape(told), brute.shape(due))


class TownOfWeb(Case):
    def check(self, many, streets):
        before = copy.deepcopy(streets)
        told = town_of_web(many, streets)
        due = unmet(many, streets)
        if due is not None:
            self.same(told, due)
        else:
            self.check_town(many, streets, told)
        self.assertEqual(streets, before)
        self.same(town_of_web(many, streets), told)
        return told

    def check_town(self, many, streets, told):
        word, cuts, bans, spots = told
        self.assertIsInstance(told, tuple)
        self.assertEqual(word, "town")
        known = far(many, streets)
        self.assertEqual(len(spots), many)
        for one, other in itertools.product(range(many), repeat=2):
            self.assertEqual(apart(spots[one], spots[other]), known[one][other])
        self.same(bans, [(a, b) for a, b in itertools.product(brute.sides(cuts), repeat=2)
                         if abs(a) < abs(b) and not [spot for spot in spots if a in spot and b in spot]])
        town = Town(cuts, bans)
        self.same(town.spots(), sorted(spots, key=lambda spot: [-side for side in spot]))
        self.assertIsInstance(spots, list)
        # Cuts come by their first streets, whose first spots have the side above nought.
        last = 0
        for one, other in streets:
            cut = [abs(a) for a, b in zip(spots[one], spots[other]) if a != b]
            self.assertEqual(len(cut), 1)
            if cut[0] > last:
                self.assertEqual(cut[0], last + 1)
                self.assertGreater(spots[one][last], 0)
                last = cut[0]
        self.assertEqual(last, cuts)

    def test_a_town(self):
        self.same(town_of_web(3, [(2, 0), (0, 1)]), ("town", 2, [(1, -2)], [(-1, 2), (-1, -2), (1, 2)]))
        self.same(town_of_web(3, [(0, 1), (2, 0)]), ("town", 2, [(-1, 2)], [(1, -2), (-1, -2), (1, 2)]))
        self.same(town_of_web(4, [(3, 2), (0, 1), (1, 3), (2, 0)]),
                  ("town", 2, [], [(-1, 2), (1, 2), (-1, -2), (1, -2)]))

    def test_one_spot(self):
        self.same(town_of_web(1, []), ("town", 0, [], [()]))

    def test_two_spots(self):
        self.same(town_of_web(2, [(0, 1)]), ("town", 1, [], [(1,), (-1,)]))
        self.same(town_of_web(2, [(1, 0)]), ("town", 1, [], [(-1,), (1,)]))
        self.same(town_of_web(2, []), ("apart", 0, 1))

    def test_rounds(self):
        self.same(self.check(3, round_of(3)), ("three", 0, 1, 2, []))
        self.assertEqual(self.check(4, round_of(4))[:2], ("town", 2))
        self.same(self.check(5, round_of(5)), ("three", 0, 1, 3, []))
        self.same(self.check(6, round_of(6)), ("three", 0, 2, 4, []))

    def test_two_between(self):
        streets = [(one, other) for one in (0, 1) for other in (2, 3, 4)]
        self.same(self.check(5, streets), ("three", 2, 3, 4, [0, 1]))
        streets = [(one, other) for one in (3, 1, 4) for other in (2, 0, 5)]
        self.same(self.check(6, streets), ("three", 0, 2, 5, [1, 3, 4]))
        block = [(a, b) for a, b in itertools.combinations(range(8), 2) if (a ^ b).bit_count() == 1]
        self.assertEqual(self.check(8, block)[:2], ("town", 3))
        without_one = [street for street in block if 7 not in street]
        self.same(self.check(7, without_one), ("three", 3, 5, 6, []))

    def test_apart(self):
        self.same(self.check(3, [(0, 2)]), ("apart", 0, 1))
        self.same(self.check(4, [(0, 1), (2, 3)]), ("apart", 0, 2))
        self.same(self.check(5, [(4, 0), (0, 1), (1, 2), (2, 4)]), ("apart", 0, 3))
        self.same(self.check(6, round_of(3) + [(3, 4), (4, 5)]), ("apart", 0, 3))
        self.same(self.check(24, []), ("apart", 0, 1))

    def test_all_small_webs(self):
        found = {}
        for many in range(1, 6):
            pairs = list(itertools.combinations(range(many), 2))
            for long in range(len(pairs) + 1):
                for streets in itertools.combinations(pairs, long):
                    word = self.check(many, list(streets))[0]
                    found[word] = found.get(word, 0) + 1
        for word in ("town", "apart", "three"):
            self.assertGreater(found[word], 50)

    def test_some_larger_webs(self):
        chance = random.Random(81)
        for _ in range(200):
            many = chance.randint(5, 9)
            pairs = list(itertools.combinations(range(many), 2))
            streets = chance.sample(pairs, chance.randint(many - 1, many + 4))
            self.check(many, [street[::chance.choice((1, -1))] for street in streets])

    def test_webs_of_towns_in_any_order(self):
        chance = random.Random(82)
        for at in range(40):
            many, streets = grown(chance, 24 if at < 10 else 9)
            self.assertEqual(self.check(many, streets)[0], "town")
            self.check(many, streets[:-1])
            self.check(many, streets[1:])
            pairs = [pair for pair in itertools.combinations(range(many), 2)
                     if pair not in streets and pair[::-1] not in streets]
            if pairs:
                self.check(many, streets + [chance.choice(pairs)])

    def test_twenty_four_spots(self):
        told = self.check(24, [(at, at + 1) for at in range(23)])
        self.assertEqual(told[:2], ("town", 23))
        self.check(24, [(at, 0) for at in range(23, 0, -1)])
        self.same(self.check(24, round_of(24))[0], "three")

    def test_what_is_told_is_new(self):
        for many, streets in ((1, []), (4, round_of(4)), (3, round_of(3))):
            due = brute.shape(town_of_web(many, streets))
            told = town_of_web(many, streets)
            for part in told:
                if isinstance(part, list):
                    part.append(7)
            self.assertEqual(brute.shape(town_of_web(many, streets)), due)


class NoWebs(unittest.TestCase):
    def refused(self, many, streets):
        with self.subTest(many=str(many)[:40], streets=str(streets)[:40]), self.assertRaises(NoWeb) as caught:
            town_of_web(many, streets)
        self.assertEqual(vars(caught.exception), {})

    def test_no_number_of_spots(self):
        for many in [0, -1, 25, 26, 10 ** 59, -10 ** 59, True, False, None, "1", "", (), (1,), [], [1], brute.nested(100)]:
            self.refused(many, [])
        self.refused(25, [(at, at + 1) for at in range(24)])

    def test_no_streets(self):
        for streets in [None, (), ((0, 1),), "ab", {}, 0, True, 1, [[0, 1]], [(0,)], [()], [(0, 1, 2)], [(0, 0)], [(0, 3)],
                        [(3, 0)], [(-1, 0)], [(0, -1)], [(0, True)], [(False, 1)], [(0, None)], [("0", 1)], [(0, "1")],
                        [((0,), 1)], [(0, [1])], ["01"], [None], [(0, 1), (1, 0)], [(0, 1), (0, 1)], [(2, 1), (0, 1), (1, 2)],
                        [(0, 10 ** 59)], [(0, 1), 5], [(0, 1), (1, 2), (1, 1)], [(0, 1)] * 3000]:
            self.refused(3, streets)
        self.refused(1, [(0, 0)])
        self.refused(1, [(0, 1)])

    def test_of_anything(self):
        for thing in brute.THINGS + [brute.nested(100), brute.nested(100, lambda inner: (inner, 1))]:
            if thing != []:
                self.refused(3, thing)
            if brute.shape(thing) not in (("int", 7), ("int", 1)):
                self.refused(thing, [])
            if brute.shape(thing) != brute.shape((0, 1)):
                self.refused(3, [(0, 1), thing])
            self.refused(3, [(0, thing)])

    def test_refused_ahead_of_what_else_is_told(self):
        self.refused(4, round_of(3) + [(0, 1)])
        self.refused(4, round_of(3) + [(4, 1)])


class WebOf(Case):
    def test_web_of_towns(self):
        for town, spots in brute.plain_towns(83, 150):
            if len(spots) > 24:
                continue
            many, streets = web_of(town)
            self.same((many, streets), (len(spots), [
                (one, other) for one, other in itertools.combinations(range(len(spots)), 2)
                if sum(a != b for a, b in zip(spots[one], spots[other])) == 1]))
            word, cuts, bans, told = town_of_web(many, streets)
            self.assertEqual(word, "town")
            self.assertEqual(cuts, len(town))
            self.assertEqual([[apart(one, other) for one in told] for other in told],
                             [[apart(one, other) for one in spots] for other in spots])

    def test_web_and_back(self):
        self.same(web_of(Town(2, [])), (4, [(0, 1), (0, 2), (1, 3), (2, 3)]))
        self.same(web_of(Town(3, [(1, 2), (-2, 3)])), (4, [(0, 3), (1, 2), (2, 3)]))
        self.same(town_of_web(*web_of(Town(2, []))), ("town", 2, [], [(1, 2), (-1, 2), (1, -2), (-1, -2)]))

    def test_no_cuts(self):
        self.same(web_of(Town(0, [])), (1, []))

    def test_towns_of_many_spots(self):
        many, streets = web_of(Town(23, path(23)))
        self.same((many, streets), (24, [(at, at + 1) for at in range(23)]))
        for town in (Town(24, path(24)), Town(5, []), Town(60, []), Town(60, path(60))):
            with self.assertRaises(TooMany) as caught:
                web_of(town)
            self.same(list(vars(caught.exception).items()), [("most", 24)])

    def test_what_is_told_is_new(self):
        town = Town(1, [])
        web_of(town)[1].append(7)
        self.same(web_of(town), (2, [(0, 1)]))
