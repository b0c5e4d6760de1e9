"""Towns of sixty cuts: told as the words say, and soon."""

import random
import time
import unittest

from meetrow.bans import nothing
from meetrow.books import book_of, town_of_book
from meetrow.errors import NotPlain
from meetrow.plain import plain
from meetrow.towns import Town
from meetrow.ways import streets_at, way
from tests import brute
from tests.test_towns import path

MANY = 60
CHAIN = [(-cut, cut + 1) for cut in range(1, MANY)]
SPOT = tuple(range(1, MANY + 1))


def place(side):
    return 2 * abs(side) - (2 if side > 0 else 1)


def slow_closure(many, bans):
    """What each side leads to, asked side by side for each two of them."""
    leads = {side: 1 << place(side) for side in brute.sides(many)}
    for one, other in bans:
        leads[one] |= 1 << place(-other)
        leads[other] |= 1 << place(-one)
    for middle in leads:
        for side in leads:
            if leads[side] & 1 << place(middle):
                leads[side] |= leads[middle]
    return leads


def slow_town(many, bans):
    """All bans of a town, asked for each two sides, and what each side leads to by these."""
    leads = slow_closure(many, bans)
    told = [(one, other) for one in leads for other in leads
            if abs(one) < abs(other) and leads[one] & 1 << place(-other)]
    return told, slow_closure(many, told)


def slow_book(leads, spot):
    """The book of a town seen from a spot, asked for each two deeds."""
    causes = tuple(tuple(abs(other) for other in spot if other != side and leads[-side] & 1 << place(-other))
                   for side in spot)
    clashes = tuple((abs(side), abs(other)) for side in spot for other in spot
                    if abs(side) < abs(other) and leads[-side] & 1 << place(other))
    return causes, clashes


def told_refusal(many, bans):
    """The refusal that is due to bans of many cuts, grown side by side, or None."""
    leads = {side: set(brute.led(bans, side)) for side in brute.sides(many)}
    cuts = range(1, many + 1)
    if any(-cut in leads[cut] and cut in leads[-cut] for cut in cuts):
        return ("nothing", 0), leads
    onesided = [cut for cut in cuts if -cut in leads[cut] or cut in leads[-cut]]
    if onesided:
        return ("onesided", onesided[0]), leads
    alike = [cut for cut in cuts for side in brute.sides(cut - 1) if side in leads[cut] and cut in leads[side]]
    return (("alike", alike[0]) if alike else None), leads


class Tellings(unittest.TestCase):
    def test_towns_by_the_words(self):
        chance = random.Random(211)
        found = {}
        for count in (0, 20, 25, 30, 35, 40, 45, 50, 55, 60, 70, 80, 120) * 3:
            bans = []
            for _ in range(count):
                one, other = chance.sample(range(1, MANY + 1), 2)
                bans.append((one * chance.choice((1, -1)), other * chance.choice((1, -1))))
            due, leads = told_refusal(MANY, bans)
            found[due and due[0]] = found.get(due and due[0], 0) + 1
            self.assertEqual(nothing(MANY, bans) is None, due != ("nothing", 0))
            if due is not None:
                with self.assertRaises(NotPlain) as caught:
                    Town(MANY, bans)
                self.assertEqual((caught.exception.word, caught.exception.cut), due)
                continue
            self.check(Town(MANY, bans), leads, chance)
        self.assertEqual(set(found), {None, "nothing", "onesided", "alike"}, found)

    def test_full_towns_by_the_words(self):
        chance = random.Random(212)
        order = [cut * chance.choice((1, -1)) for cut in chance.sample(range(1, MANY + 1), MANY)]
        for bans in (CHAIN, path(MANY), [(-one, other) for one, other in zip(order, order[1:])],
                     [(one, other) for one in SPOT for other in SPOT if one < other]):
            due, leads = told_refusal(MANY, bans)
            self.assertIsNone(due)
            town = Town(MANY, bans)
            self.check(town, leads, chance)
            self.assertEqual(len(town.bans()), 1770)
            self.assertEqual(Town(MANY, town.bans()), town)
            self.assertEqual(len(town.spots()), 61)

    def check(self, town, leads, chance):
        sides = brute.sides(MANY)
        self.assertEqual([town.follows(side) for side in sides],
                         [[other for other in sides if other in leads[side]] for side in sides])
        bans = [(one, other) for one in sides for other in sides if abs(one) < abs(other) and -other in leads[one]]
        self.assertEqual(town.bans(), bans)
        self.assertEqual(plain(MANY, bans), (MANY, bans, SPOT))
        asked = chance.sample(sides, 2)
        one, other = town.spot_on(asked[:1]), town.spot_on([-asked[0]])
        for spot in (one, other):
            self.assertTrue(town.is_spot(spot))
            crossed = [spot[:cut - 1] + (-spot[cut - 1],) + spot[cut:] for cut in SPOT]
            streets = [cut for cut in SPOT if not any(a in crossed[cut - 1] and b in crossed[cut - 1] for a, b in bans)]
            self.assertEqual(streets_at(town, spot), streets)
        steps = way(town, one, other)
        self.assertEqual(len(steps) - 1, sum(a != b for a, b in zip(one, other)))
        self.assertTrue(all(town.is_spot(spot) for spot in steps))


class Soon(unittest.TestCase):
    """Each as soon as in a third of the time that the same takes when it is asked for each two sides."""

    def took(self, asked):
        begun = time.perf_counter()
        asked()
        return time.perf_counter() - begun

    def check(self, asked, slow):
        # Turn by turn, the least time of each, and some tries: so whatever else goes on here counts for little.
        for _ in range(5):
            pairs = [(self.took(asked), self.took(slow)) for _ in range(7)]
            fast, slowly = [min(times) for times in zip(*pairs)]
            if 3 * fast <= slowly:
                return
        self.fail(f"{fast * 1000:.2f} ms, {slowly * 1000:.2f} ms")

    def test_a_chain_of_bans(self):
        self.check(lambda: Town(MANY, CHAIN), lambda: slow_town(MANY, CHAIN))

    def test_all_bans_that_follow(self):
        bans = Town(MANY, CHAIN).bans()
        self.assertEqual(len(bans), 1770)
        self.check(lambda: Town(MANY, bans), lambda: slow_town(MANY, bans))

    def test_the_town_of_a_book(self):
        town = Town(MANY, CHAIN)
        bans = town.bans()
        leads = slow_closure(MANY, CHAIN)
        self.assertEqual(book_of(town, SPOT), slow_book(leads, SPOT))
        self.assertEqual(town_of_book(book_of(town, SPOT)), town)
        self.check(lambda: town_of_book(book_of(town, SPOT)), lambda: [slow_book(leads, SPOT), slow_town(MANY, bans)])
