import itertools
import random
import unittest

from meetrow.errors import TooMany
from meetrow.maps import led_by
from meetrow.plain import plain
from meetrow.settings import closed, plain_of, unclosed
from meetrow.towns import Town
from tests import brute
from tests.test_maps import meet
from tests.test_towns import block, path


def slow_closed(settings):
    """All that come, rising: met again and again until nothing comes anew."""
    found = set(settings)
    while True:
        more = {meet(*three) for three in itertools.product(found, repeat=3)}
        if more <= found:
            return sorted(found, key=lambda one: [side < 0 for side in one])
        found |= more


def slow_unclosed(settings):
    for numbers in itertools.combinations(range(len(settings)), 3):
        if meet(*[settings[number] for number in numbers]) not in settings:
            return numbers
    return None


def some_settings(seed, count, cuts, most):
    chance = random.Random(seed)
    for _ in range(count):
        many = chance.randint(0, cuts)
        yield many, [chance.choice(brute.settings(many)) for _ in range(chance.randint(1, most))]


class Case(unittest.TestCase):
    def same(self, told, due):
        self.assertEqual(brute.shape(told), brute.shape(due))

    def refused(self, most, asked, *handed):
        with self.assertRaises(TooMany) as caught:
            asked(*handed)
        self.same(list(vars(caught.exception).items()), [("most", most)])


class Closed(Case):
    def test_three_and_where_they_meet(self):
        self.same(closed(3, [(1, 2, -3), (-1, 2, 3), (1, -2, 3)]), [(1, 2, 3), (1, 2, -3), (1, -2, 3), (-1, 2, 3)])

    def test_by_the_words(self):
        for many, settings in some_settings(131, 400, 5, 6):
            before = list(settings)
            self.same(closed(many, settings), slow_closed(settings))
            self.assertEqual(settings, before)

    def test_all_sets_of_three_cuts(self):
        every = brute.settings(3)
        for long in range(1, 9):
            for settings in itertools.combinations(every, long):
                self.same(closed(3, list(settings)), slow_closed(settings))

    def test_one_alone_and_no_cuts(self):
        self.same(closed(0, [()]), [()])
        self.same(closed(0, [()] * 500), [()])
        self.same(closed(3, [(1, -2, 3)]), [(1, -2, 3)])
        self.same(closed(3, [(1, -2, 3)] * 500), [(1, -2, 3)])
        self.same(closed(1, [(-1,), (1,), (-1,)]), [(1,), (-1,)])

    def test_five_hundred_and_one_more(self):
        town = block()
        spots = town.spots()
        chance = random.Random(132)
        chance.shuffle(spots)
        self.same(closed(15, spots), town.spots())
        # One that is at no other one's cut, at the end of a street from one of them.
        more = [spot + (16,) for spot in spots[:-1]] + [spots[-1] + (16,), spots[-1] + (-16,)]
        self.refused(500, closed, 16, more)
        self.same(len(closed(16, more[:-1])), 500)

    def test_many_more_are_refused_soon(self):
        chance = random.Random(133)
        settings = [tuple(chance.choice((cut, -cut)) for cut in range(1, 61)) for _ in range(500)]
        self.refused(500, closed, 60, settings)
        nine = [tuple(-cut if cut in pair else cut for cut in range(1, 10))
                for pair in itertools.combinations(range(1, 10), 2)] + [tuple(range(-1, -10, -1))]
        self.refused(500, closed, 9, nine)

    def test_sixty_cuts(self):
        spots = Town(60, path(60)).spots()
        self.same(closed(60, spots[::-1]), spots)
        self.same(closed(60, [spots[0], spots[60]]), [spots[0], spots[60]])
        self.same(closed(60, spots[::6]), spots[::6])


class PlainOf(Case):
    def check(self, many, settings):
        few, bans, table = plain_of(many, settings)
        town = Town(few, bans)
        self.same(town.bans(), bans)
        self.assertIsInstance(table, tuple)
        self.assertEqual([led_by(table, spot) for spot in town.spots()], slow_closed(settings))
        # The table of [7]: one-sided cuts, and lots of alike ones by the least of each.
        on = {side: [side in one for one in settings] for side in brute.sides(many)}
        least = []
        for cut, entry in enumerate(table, 1):
            if len(set(on[cut])) == 1:
                self.same(entry, on[cut][0])
                continue
            alike = [new * (1 if on[cut] == on[elder] else -1) for new, elder in enumerate(least, 1)
                     if on[cut] in (on[elder], on[-elder])]
            if not alike:
                least.append(cut)
                alike = [len(least)]
            self.same(entry, alike[0])
        self.same(few, len(least))

    def test_a_form(self):
        self.same(plain_of(5, [(1, 2, 3, -4, 5), (-1, 2, 3, 4, -5), (-1, 2, -3, 4, 5)]),
                  (3, [(1, -2), (1, -3), (-2, -3)], (1, True, 2, -1, 3)))

    def test_by_the_words(self):
        for many, settings in some_settings(134, 400, 5, 6):
            before = list(settings)
            self.check(many, settings)
            self.assertEqual(settings, before)

    def test_is_that_of_bans(self):
        for many, bans in brute.many_bans(135, 300, 5, 7):
            spots = brute.let(many, bans)
            if spots:
                self.same(plain_of(many, spots), plain(many, bans))

    def test_one_alone_and_no_cuts(self):
        self.same(plain_of(0, [()]), (0, [], ()))
        self.same(plain_of(3, [(1, -2, 3)] * 2), (0, [], (True, False, True)))
        self.same(plain_of(1, [(1,), (-1,)]), (1, [], (1,)))

    def test_is_never_refused(self):
        chance = random.Random(136)
        settings = [tuple(chance.choice((cut, -cut)) for cut in range(1, 61)) for _ in range(500)]
        self.same(plain_of(60, settings), (60, [], tuple(range(1, 61))))
        spots = Town(60, path(60)).spots()
        self.same(plain_of(60, spots), (60, Town(60, path(60)).bans(), tuple(range(1, 61))))
        self.same(plain_of(60, [spots[0], spots[60]] * 250), (1, [], (1,) * 60))

    def test_what_is_told_is_new(self):
        settings = [(1, 2), (1, -2), (-1, 2)]
        plain_of(2, settings)[1].append(7)
        closed(2, settings).append(7)
        self.same(plain_of(2, settings), (2, [(-1, -2)], (1, 2)))
        self.same(closed(2, settings), [(1, 2), (1, -2), (-1, 2)])


class Unclosed(Case):
    def test_the_first_three(self):
        self.same(unclosed([(1, 2, 3), (1, -2, -3), (-1, 2, -3), (-1, -2, 3)]), (0, 1, 2))
        self.same(unclosed([(1, 2, 3), (1, 2, 3), (1, -2, -3), (-1, 2, -3)]), (0, 2, 3))
        self.same(unclosed([(1, 2, -3), (1, 2, 3), (1, -2, -3), (-1, 2, -3), (-1, -2, 3)]), (1, 2, 4))

    def test_by_the_words(self):
        found = {True: 0, False: 0}
        for many, settings in some_settings(137, 800, 5, 7):
            due = slow_unclosed(settings)
            self.same(unclosed(settings), due)
            found[due is None] += 1
            whole = slow_closed(settings)
            if len(whole) <= 24:
                self.assertIsNone(unclosed(whole))
                self.same(unclosed(whole[1:]), slow_unclosed(whole[1:]))
        self.assertGreater(min(found.values()), 100)

    def test_few_and_no_cuts(self):
        self.assertIsNone(unclosed([()]))
        self.assertIsNone(unclosed([()] * 24))
        self.assertIsNone(unclosed([(1,)]))
        self.assertIsNone(unclosed([(1, 2), (-1, -2)]))

    def test_each_tuple_of_the_list_counts(self):
        self.assertIsNone(unclosed([(1, 2)] * 24))
        self.refused(24, unclosed, [(1, 2)] * 25)
        self.refused(24, unclosed, [()] * 25)
        self.refused(24, unclosed, [()] * 500)
        three = [(1, 2, 3), (1, -2, -3), (-1, 2, -3)]
        self.same(unclosed(three[:2] + [three[1]] * 21 + three[2:]), (0, 1, 23))

    def test_sixty_cuts(self):
        spots = Town(60, path(60)).spots()
        self.assertIsNone(unclosed(spots[:24]))
        self.refused(24, unclosed, spots[:25])
        one, two, three = [tuple(-cut if cut % 3 == left else cut for cut in range(1, 61)) for left in range(3)]
        self.same(unclosed([one] * 10 + [two] * 10 + [three] * 4), (0, 10, 20))
        self.assertIsNone(unclosed([one] * 10 + [two] * 10 + [three] * 3 + [tuple(range(1, 61))]))
