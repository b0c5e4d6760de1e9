import itertools
import random
import unittest

from meetrow.books import book_of, is_book, town_of_book
from meetrow.towns import Town
from tests import brute
from tests.test_towns import block, path


def slow_book(spots, spot):
    """The book of spots seen from one, straight from the words."""
    deeds = range(1, len(spot) + 1)
    done = [{deed for deed in deeds if other[deed - 1] != spot[deed - 1]} for other in spots]
    causes = tuple(tuple(cause for cause in deeds if cause != deed and all(cause in one for one in done if deed in one))
                   for deed in deeds)
    return causes, tuple(pair for pair in itertools.combinations(deeds, 2)
                         if not any(set(pair) <= one for one in done))


def slow_is_book(many, causes, clashes):
    """Whether tuples of tuples of whole numbers are a book, straight from the words."""
    deeds = range(1, many + 1)
    if len(causes) != many or any(set(told) - set(deeds) for told in causes + clashes):
        return False
    if any(list(told) != sorted(set(told)) for told in causes):
        return False
    for deed in deeds:
        if deed in causes[deed - 1] or any(set(causes[one - 1]) - set(causes[deed - 1]) for one in causes[deed - 1]):
            return False
    if any(len(clash) != 2 or clash[0] >= clash[1] for clash in clashes) or list(clashes) != sorted(set(clashes)):
        return False
    clash = {pair for one in clashes for pair in (one, one[::-1])}
    for deed, other in itertools.product(deeds, repeat=2):
        if any((cause, other) in clash for cause in causes[deed - 1]) and (deed, other) not in clash:
            return False
    for deed in deeds:
        told = causes[deed - 1]
        if any((deed, cause) in clash for cause in told) or any(pair in clash for pair in itertools.combinations(told, 2)):
            return False
    return True


def sets_of(book):
    """All sets of deeds that have all causes of theirs and no two that clash, as spots."""
    causes, clashes = book
    deeds = range(1, len(causes) + 1)
    found = []
    for many in range(len(causes) + 1):
        for done in itertools.combinations(deeds, many):
            if all(set(causes[deed - 1]) <= set(done) for deed in done) and not any(set(c) <= set(done) for c in clashes):
                found.append(tuple(-deed if deed in done else deed for deed in deeds))
    return sorted(found, key=lambda spot: [-side for side in spot])


class Case(unittest.TestCase):
    def same(self, told, due):
        self.assertEqual(brute.shape(told), brute.shape(due))


class BookOf(Case):
    def test_a_book(self):
        town = Town(3, [(1, 2), (-2, 3)])
        self.same(book_of(town, (1, -2, -3)), (((), (1,), (1, 2)), ()))
        self.same(book_of(town, (-1, 2, -3)), (((2,), (), ()), ((1, 3), (2, 3))))

    def test_books_by_the_words(self):
        for town, spots in brute.plain_towns(91, 150):
            for spot in spots:
                told = book_of(town, spot)
                self.same(told, slow_book(spots, spot))
                self.assertIs(is_book(len(town), told), True)
                seen = town_of_book(told)
                self.assertIsInstance(seen, Town)
                # A side of the town is the number's where the spot has it, too.
                due = [tuple(cut if side == own else -cut for cut, (side, own) in enumerate(zip(other, spot), 1))
                       for other in spots]
                self.same(seen.spots(), sorted(due, key=lambda one: [-side for side in one]))
                self.same(book_of(seen, tuple(range(1, len(town) + 1))), told)

    def test_no_deeds(self):
        self.same(book_of(Town(0, []), ()), ((), ()))
        self.assertEqual(town_of_book(((), ())), Town(0, []))

    def test_many_spots(self):
        town = block()
        for spot in town.spots()[::83]:
            self.same(book_of(town, spot), slow_book(town.spots(), spot))

    def test_sixty_deeds(self):
        town = Town(60, path(60))
        rising = (tuple(tuple(range(1, deed)) for deed in range(1, 61)), ())
        self.same(book_of(town, tuple(range(-1, -61, -1))), rising)
        self.same(book_of(town, tuple(range(1, 61))),
                  (tuple(tuple(range(deed + 1, 61)) for deed in range(1, 61)), ()))
        self.assertIs(is_book(60, rising), True)
        self.assertEqual(town_of_book(rising), Town(60, [(one, -two) for one in range(1, 60) for two in range(one + 1, 61)]))
        free = (((),) * 60, ())
        self.same(book_of(Town(60, []), tuple(range(1, 61))), free)
        self.assertEqual(town_of_book(free), Town(60, []))
        clashing = (((),) * 60, tuple(itertools.combinations(range(1, 61), 2)))
        self.assertIs(is_book(60, clashing), True)
        self.assertEqual(len(town_of_book(clashing).spots()), 61)
        self.same(book_of(town_of_book(clashing), tuple(range(1, 61))), clashing)


class TownOfBook(Case):
    def test_towns_by_the_words(self):
        found = 0
        for book in all_books(3):
            town = town_of_book(book)
            self.same(town.spots(), sets_of(book))
            self.same(len(town), 3)
            self.same(book_of(town, (1, 2, 3)), book)
            found += 1
        self.assertGreater(found, 40)

    def test_larger_towns(self):
        chance = random.Random(92)
        for town, spots in brute.plain_towns(93, 60, 6, 9):
            book = book_of(town, chance.choice(spots))
            self.same(town_of_book(book).spots(), sets_of(book))


def all_books(many):
    """All tuples of rising causes and rising clashes that are books."""
    deeds = range(1, many + 1)
    lots = [lot for long in range(many + 1) for lot in itertools.combinations(deeds, long)]
    pairs = list(itertools.combinations(deeds, 2))
    for causes in itertools.product(lots, repeat=many):
        for long in range(len(pairs) + 1):
            for clashes in itertools.combinations(pairs, long):
                if slow_is_book(many, causes, clashes):
                    yield causes, clashes


class IsBook(unittest.TestCase):
    def test_all_small_ones(self):
        found = {True: 0, False: 0}
        for many in range(4):
            deeds = range(1, many + 1)
            lots = [lot for long in range(many + 1) for lot in itertools.combinations(deeds, long)]
            pairs = list(itertools.combinations(deeds, 2))
            for causes in itertools.product(lots, repeat=many):
                for long in range(len(pairs) + 1):
                    for clashes in itertools.combinations(pairs, long):
                        due = slow_is_book(many, causes, clashes)
                        self.assertIs(is_book(many, (causes, clashes)), due)
                        found[due] += 1
        self.assertGreater(min(found.values()), 40)

    def test_one_thing_otherwise(self):
        chance = random.Random(94)
        found = {True: 0, False: 0}
        for town, spots in brute.plain_towns(95, 80, 5, 7):
            many = len(town)
            for _ in range(30):
                causes, clashes = [list(part) for part in book_of(town, chance.choice(spots))]
                which = causes if chance.random() < 0.5 and causes else clashes
                kind = chance.randrange(4)
                at = chance.randrange(len(which) + 1)
                if kind == 0 and which:
                    del which[at - 1]
                elif kind == 1:
                    which.insert(at, tuple(chance.choices(range(many + 2), k=2)))
                elif kind == 2 and which:
                    lot = list(which[at - 1])
                    lot[chance.randrange(len(lot) + 1):] = [chance.randint(0, many + 1)]
                    which[at - 1] = tuple(lot)
                elif which:
                    which[at - 1] = which[at - 1][:-1] if chance.random() < 0.5 else which[at - 1][::-1]
                due = slow_is_book(many, tuple(causes), tuple(clashes))
                self.assertIs(is_book(many, (tuple(causes), tuple(clashes))), due, (many, causes, clashes))
                found[due] += 1
        self.assertGreater(min(found.values()), 100)

    RIGHT = (((), (), (1,), (1, 3)), ((1, 2), (2, 3), (2, 4)))

    def test_what_is_no_book(self):
        causes, clashes = self.RIGHT
        self.assertIs(is_book(4, self.RIGHT), True)
        for thing in [
            [causes, clashes], (causes,), (causes, clashes, ()), (list(causes), clashes), (causes, list(clashes)),
            (causes[:3] + ([1, 3],), clashes), (causes, clashes[:2] + ([2, 4],)), (causes[:3], clashes),
            (causes + ((),), clashes), (((),) + causes, clashes),
            # causes: out of order, twice, itself, those of a cause left out, none or no whole numbers
            (causes[:3] + ((3, 1),), clashes), (causes[:3] + ((1, 1, 3),), clashes), (causes[:3] + ((1, 3, 4),), clashes),
            (causes[:3] + ((3,),), clashes), (causes[:3] + ((0, 1, 3),), clashes), (causes[:3] + ((1, 3, 5),), clashes),
            (causes[:3] + ((True, 3),), clashes), (causes[:3] + ((1, "3"),), clashes), (causes[:3] + ((1, None),), clashes),
            (causes[:3] + ((-1, 1, 3),), clashes), (causes[:3] + (3,), clashes), (causes[:3] + (None,), clashes),
            (((3,), (), (1,), (1, 3)), clashes), (causes[:3] + ("13",), clashes), (causes[:3] + ((1, (3,)),), clashes),
            (causes[:3] + ((1, 3, 10 ** 59),), clashes),
            # clashes: out of order, twice, the greater first, one alone, three, none by a cause, with a cause
            (causes, clashes[::-1]), (causes, clashes[:1] + clashes), (causes, ((2, 1),) + clashes[1:]),
            (causes, ((1, 2), (1, 2), (2, 3), (2, 4))), (causes, clashes[:2] + ((4, 2),)), (causes, ((1, 1),) + clashes),
            (causes, clashes + ((4,),)), (causes, clashes + ((4, 4),)), (causes, clashes + ((3, 4, 4),)),
            (causes, clashes + ((),)), (causes, clashes[:2]), (causes, clashes[:1] + clashes[2:]),
            (causes, clashes[:1]), (causes, clashes + ((3, 4),)), (causes, ((1, 2), (1, 3), (2, 3), (2, 4))),
            (causes, clashes[:2] + ((2, True),)), (causes, ((True, 2),) + clashes[1:]), (causes, clashes + ((2, 5),)),
            (causes, ((0, 2),) + clashes), (causes, clashes + ("34",)), (causes, clashes + (None,)), (causes, None),
            (causes, clashes[:2] + ((2, 4, 4),)), (None, clashes), (causes, "12"), ("1234", clashes), (0, 0),
            # two causes of one that clash
            (((), (), (1, 2), ()), ((1, 2),)), (((), (), (1, 2), ()), ((1, 2), (1, 3), (2, 3))),
        ]:
            with self.subTest(thing=str(thing)[:80]):
                self.assertIs(is_book(4, thing), False)

    def test_clashes_need_no_other_ones(self):
        causes, clashes = self.RIGHT
        self.assertIs(is_book(4, (causes, clashes[1:])), True)
        self.assertIs(is_book(4, (causes, ())), True)
        self.assertIs(is_book(4, (((),) * 4, clashes)), True)

    def test_so_many_deeds(self):
        for many in range(61):
            self.assertIs(is_book(many, (((),) * many, ())), True)
            self.assertIs(is_book(many, (((),) * (many + 1), ())), False)
            if many:
                self.assertIs(is_book(many, (((),) * (many - 1), ())), False)
                self.assertIs(is_book(many, (((many,),) + ((),) * (many - 1), ())), many > 1)
                self.assertIs(is_book(many, (((many + 1,),) + ((),) * (many - 1), ())), False)
        self.assertIs(is_book(0, ((), ())), True)
        self.assertIs(is_book(0, ((), ((),))), False)
        self.assertIs(is_book(1, ((), ())), False)

    def test_of_anything(self):
        things = brute.THINGS + [brute.nested(100), brute.nested(100, lambda inner: (inner, ()))]
        causes, clashes = self.RIGHT
        none_or_one = [brute.shape(()), brute.shape((1,))]
        for thing in things:
            self.assertIs(is_book(4, thing), False)
            self.assertIs(is_book(0, thing), False)
            self.assertIs(is_book(4, (thing, clashes)), False)
            self.assertIs(is_book(4, (causes, thing)), brute.shape(thing) == brute.shape(()))
            self.assertIs(is_book(4, (causes[:3] + (thing,), clashes)), brute.shape(thing) in none_or_one)
            self.assertIs(is_book(4, (causes, clashes + (thing,))), False)
            self.assertIs(is_book(4, (causes, clashes[:2] + ((2, thing),))), False)
            self.assertIs(is_book(4, (causes[:3] + ((1, thing),), clashes)), False)
