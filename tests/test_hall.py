import itertools
import random
import unittest

from meetrow import errors
from meetrow.hall import Hall
from meetrow.papers import is_paper
from meetrow.towns import Town
from tests import brute
from tests.slow_hall import SlowHall
from tests.test_towns import path

MOST = 10 ** 100
REFUSALS = tuple(vars(errors)[name] for name in vars(errors) if name[0] in "NIT" and name[0].isupper())
SQUARE = Town(2, [])
ONE, TWO, THREE, FOUR = (1, 2), (1, -2), (-1, 2), (-1, -2)


class Case(unittest.TestCase):
    def same(self, told, due):
        self.assertEqual(brute.shape(told), brute.shape(due))

    def refused(self, error, fields, asked, *handed):
        with self.assertRaises(error) as caught:
            asked(*handed)
        self.same(list(vars(caught.exception).items()), list(fields.items()))

    def told(self, hall):
        """All that a hall tells."""
        bands = [(word, hall.is_ring(word), hall.folk_of(word), hall.stand(word), hall.rest(word))
                 for word in hall.words()]
        bells = [(word, hall.rung(word), hall.tolls(word, 7)) for word in hall.bells()]
        pasts = [[hall.was(folk, moment) for folk in band[2] for moment in (hall.now(), hall.now() - 1)
                  if self.can_tell(hall, folk, moment)] for band in bands]
        return bands, bells, pasts, hall.now(), hall.deeds()

    def can_tell(self, hall, folk, moment):
        try:
            hall.was(folk, moment)
        except errors.NoMoment:
            return False
        return True


class Deeds(Case):
    def test_empty(self):
        hall = Hall(SQUARE)
        self.same(self.told(hall), ([], [], [], 0, []))
        self.assertEqual(hall.town(), SQUARE)
        self.assertIsInstance(hall.town(), Town)
        self.refused(errors.NoDeed, {}, hall.back)

    def test_come_and_go(self):
        hall = Hall(SQUARE)
        self.assertIsNone(hall.row("a", [ONE, FOUR, ONE]))
        self.assertIsNone(hall.ring("b", [ONE, FOUR, ONE, FOUR]))
        self.same(hall.words(), ["a", "b"])
        self.same((hall.folk_of("a"), hall.folk_of("b")), ([0, 1, 2], [3, 4, 5, 6]))
        self.assertIs(hall.is_ring("a"), False)
        self.assertIs(hall.is_ring("b"), True)
        self.assertIsNone(hall.go(1))
        self.same(hall.now(), 1)
        self.same(hall.stand("a"), [ONE, ONE, ONE])
        self.same(hall.stand("b"), [FOUR, ONE, FOUR, ONE])
        hall.go(MOST)
        hall.go(0)
        hall.go(MOST + 0)
        self.same(hall.now(), 2 * MOST + 1)
        self.same(hall.stand("b"), [FOUR, ONE, FOUR, ONE])
        self.same(hall.far("b", MOST + 1), [ONE, FOUR, ONE, FOUR])
        self.same(hall.far("b", 0), hall.stand("b"))
        self.same(hall.deeds(), [("row", "a", (ONE, FOUR, ONE)), ("ring", "b", (ONE, FOUR, ONE, FOUR)), ("go", 1),
                                 ("go", MOST), ("go", 0), ("go", MOST)])

    def test_part_and_hook(self):
        hall = Hall(SQUARE)
        hall.row("a", [ONE, TWO, THREE, FOUR])
        hall.row("b", [ONE])
        self.assertIsNone(hall.part(1, "c"))
        self.same(hall.words(), ["a", "b", "c"])
        self.same([hall.folk_of(word) for word in hall.words()], [[0, 1], [4], [2, 3]])
        self.same(hall.stand("c"), [THREE, FOUR])
        self.assertIsNone(hall.hook("b", "a"))
        self.same(hall.words(), ["b", "c"])
        self.same(hall.folk_of("b"), [4, 0, 1])
        # The word is free again, and a row that comes anew is the last.
        hall.row("a", [FOUR])
        self.same(hall.words(), ["b", "c", "a"])
        hall.hook("a", "b")
        hall.part(4, "b")
        self.same(hall.words(), ["c", "a", "b"])
        self.same([hall.folk_of(word) for word in hall.words()], [[2, 3], [5, 4], [0, 1]])
        self.same(hall.deeds()[2:], [("part", 1, "c"), ("hook", "b", "a"), ("row", "a", (FOUR,)), ("hook", "a", "b"),
                                     ("part", 4, "b")])

    def test_close_and_unclose(self):
        hall = Hall(SQUARE)
        hall.row("x", [ONE])
        hall.row("a", [ONE, TWO, THREE, FOUR])
        self.assertIsNone(hall.close("a"))
        self.assertIs(hall.is_ring("a"), True)
        self.assertIsNone(hall.unclose(2))
        self.assertIs(hall.is_ring("a"), False)
        self.same(hall.folk_of("a"), [3, 4, 1, 2])
        self.same(hall.stand("a"), [THREE, FOUR, ONE, TWO])
        self.same(hall.words(), ["x", "a"])
        hall.close("a")
        # Behind the last one the first one begins.
        hall.unclose(2)
        self.same(hall.folk_of("a"), [3, 4, 1, 2])
        self.same(hall.deeds()[2:], [("close", "a"), ("unclose", 2), ("close", "a"), ("unclose", 2)])

    def test_carry_and_drop(self):
        hall = Hall(SQUARE)
        hall.row("a", [ONE, TWO])
        self.assertIsNone(hall.carry(1, FOUR))
        self.same(hall.stand("a"), [ONE, FOUR])
        self.assertIsNone(hall.drop("a"))
        self.same(hall.words(), [])
        hall.row("a", [ONE])
        # Numbers of those that left aren't given again.
        self.same(hall.folk_of("a"), [2])
        self.refused(errors.NoFolk, {"folk": 1}, hall.carry, 1, FOUR)
        self.same(hall.deeds(), [("row", "a", (ONE, TWO)), ("carry", 1, FOUR), ("drop", "a"), ("row", "a", (ONE,))])

    def test_sixty_at_a_time(self):
        hall = Hall(SQUARE)
        hall.row("a", [ONE] * 60)
        self.refused(errors.TooMany, {"most": 60}, hall.row, "b", [ONE])
        hall.drop("a")
        self.refused(errors.TooMany, {"most": 60}, hall.row, "b", [ONE] * 61)
        self.refused(errors.TooMany, {"most": 60}, hall.ring, "b", [ONE] * 61)
        hall.row("b", [ONE] * 57)
        self.refused(errors.TooMany, {"most": 60}, hall.ring, "c", [ONE] * 4)
        hall.ring("c", [ONE] * 3)
        self.same(hall.folk_of("c"), [117, 118, 119])

    def test_town_of_no_cuts(self):
        hall = Hall(Town(0, []))
        hall.ring("a", [(), (), ()])
        hall.go(MOST)
        hall.bell("b", 0, [])
        hall.go(3)
        self.same(hall.stand("a"), [(), (), ()])
        self.same(hall.rest("a"), (0, []))
        self.same((hall.rung("b"), hall.tolls("b", MOST)), (0, 0))
        self.same(hall.first_at(1, ()), 0)
        self.same(hall.paper(0, 7), ())

    def test_what_is_handed_in_is_copied(self):
        hall = Hall(SQUARE)
        stand, sides = [ONE, FOUR, ONE], [1]
        hall.row("a", stand)
        hall.bell("b", 1, sides)
        stand[1] = TWO
        sides.append(2)
        self.same(hall.stand("a"), [ONE, FOUR, ONE])
        hall.go(1)
        self.same(hall.rung("b"), 1)
        self.same(hall.deeds(), [("row", "a", (ONE, FOUR, ONE)), ("bell", "b", 1, (1,)), ("go", 1)])
        self.same((stand, sides), ([ONE, TWO, ONE], [1, 2]))

    def test_what_is_told_is_new(self):
        hall = Hall(SQUARE)
        hall.row("a", [ONE, FOUR, ONE])
        hall.bell("b", 1, [1])
        before = self.told(hall)
        for told in (hall.words(), hall.stand("a"), hall.folk_of("a"), hall.far("a", 0), hall.far("a", 1),
                     hall.rest("a")[1], hall.deeds(), hall.bells()):
            told.append("x")
            told.insert(0, "y")
        self.same(self.told(hall), before)


class Refusals(Case):
    """Each refusal, ahead of those that are told behind it; and nothing changes by it."""

    def setUp(self):
        self.hall = Hall(Town(2, [(1, 2)]))
        self.hall.row("a", [TWO, THREE, FOUR])
        self.hall.ring("o", [TWO, THREE, FOUR])
        self.hall.row("b", [THREE])
        self.hall.row("gone", [TWO])
        self.hall.drop("gone")
        self.hall.bell("a", 0, [1])
        self.hall.go(5)
        self.before = self.told(self.hall)

    def tearDown(self):
        self.same(self.told(self.hall), self.before)

    def test_row(self):
        for stand in ([THREE], [ONE], [THREE] * 61, [None] * 61):
            self.refused(errors.IsThere, {"word": "a"}, self.hall.row, "a", stand)
            self.refused(errors.IsThere, {"word": "o"}, self.hall.row, "o", stand)
        self.refused(errors.NoSpot, {"number": 0}, self.hall.row, "c", [ONE])
        self.refused(errors.NoSpot, {"number": 2}, self.hall.row, "c", [TWO, THREE, ONE, ONE])
        self.refused(errors.NoSpot, {"number": 60}, self.hall.row, "c", [TWO] * 60 + [ONE])
        self.refused(errors.TooMany, {"most": 60}, self.hall.row, "c", [TWO] * 54)
        for thing in brute.THINGS + [brute.nested(100), (True, -2), [1, -2]]:
            self.refused(errors.NoSpot, {"number": 1}, self.hall.row, "c", [TWO, thing])

    def test_ring(self):
        for stand in ([THREE] * 3, [ONE], [], [THREE] * 61, [None] * 3):
            self.refused(errors.IsThere, {"word": "a"}, self.hall.ring, "a", stand)
        for stand in ([THREE], [TWO, THREE], [ONE, ONE], [None]):
            self.refused(errors.TooFew, {}, self.hall.ring, "c", stand)
        self.refused(errors.NoSpot, {"number": 1}, self.hall.ring, "c", [TWO, ONE, ONE])
        self.refused(errors.NoSpot, {"number": 60}, self.hall.ring, "c", [TWO] * 60 + [ONE])
        self.refused(errors.TooMany, {"most": 60}, self.hall.ring, "c", [TWO] * 54)

    def test_carry(self):
        for folk in (7, 8, -1, 10 ** 59, True, False, None, "a", "0", (), [0], (0,), [[]]):
            for spot in (TWO, ONE, None):
                self.refused(errors.NoFolk, {"folk": folk}, self.hall.carry, folk, spot)
        for spot in brute.THINGS + [brute.nested(100), ONE, (True, -2), [1, -2], (1, -2, 3)]:
            self.refused(errors.NoSpot, {"number": 0}, self.hall.carry, 0, spot)

    def test_part(self):
        for folk in (7, -1, True, None, [0]):
            for word in ("c", "a"):
                self.refused(errors.NoFolk, {"folk": folk}, self.hall.part, folk, word)
        for folk in (3, 4, 5):
            for word in ("c", "a"):
                self.refused(errors.NotRow, {"word": "o"}, self.hall.part, folk, word)
        for folk in (2, 6):
            for word in ("c", "a"):
                self.refused(errors.NoHands, {"folk": folk}, self.hall.part, folk, word)
        for word in ("a", "b", "o"):
            self.refused(errors.IsThere, {"word": word}, self.hall.part, 0, word)

    def test_unclose(self):
        for folk in (7, -1, True, None, [0]):
            self.refused(errors.NoFolk, {"folk": folk}, self.hall.unclose, folk)
        for folk, word in ((0, "a"), (2, "a"), (6, "b")):
            self.refused(errors.NotRing, {"word": word}, self.hall.unclose, folk)

    def test_hook(self):
        for other in ("x", "a", "o", "gone"):
            self.refused(errors.NotThere, {"word": "gone"}, self.hall.hook, "gone", other)
        for word in ("a", "o"):
            self.refused(errors.NotThere, {"word": "gone"}, self.hall.hook, word, "gone")
        for other in ("a", "o"):
            self.refused(errors.NotRow, {"word": "o"}, self.hall.hook, "o", other)
        self.refused(errors.NotRow, {"word": "o"}, self.hall.hook, "a", "o")
        self.refused(errors.NoHands, {"folk": 0}, self.hall.hook, "a", "a")
        self.refused(errors.NoHands, {"folk": 6}, self.hall.hook, "b", "b")

    def test_close_and_drop(self):
        self.refused(errors.NotThere, {"word": "gone"}, self.hall.close, "gone")
        self.refused(errors.NotRow, {"word": "o"}, self.hall.close, "o")
        self.refused(errors.TooFew, {}, self.hall.close, "b")
        self.refused(errors.NotThere, {"word": "gone"}, self.hall.drop, "gone")

    def test_bell(self):
        for folk, sides in ((0, [1]), (7, [1]), (None, None)):
            self.refused(errors.IsThere, {"word": "a"}, self.hall.bell, "a", folk, sides)
        for folk in (7, -1, True, None, [0]):
            for sides in ([1], [1, 2], None):
                self.refused(errors.NoFolk, {"folk": folk}, self.hall.bell, "b", folk, sides)
        for sides in brute.THINGS + [
            brute.nested(100), [1, 2], [1, -1], [-2, 1, 2], [3], [0], [True], [1, None], (1,), (), [[1]], [1, -3], "12",
            [10 ** 59], [1, False],
        ]:
            if brute.shape(sides) not in (brute.shape([]), brute.shape([1])):
                self.refused(errors.NoQuarter, {"number": 0}, self.hall.bell, "b", 0, sides)
        for word in ("b", "o", "gone"):
            self.refused(errors.NotThere, {"word": word}, self.hall.unbell, word)

    def test_askings(self):
        hall = self.hall
        for word in ("gone", "x"):
            for asked in (hall.stand, hall.folk_of, hall.is_ring, hall.rest, hall.rung):
                self.refused(errors.NotThere, {"word": word}, asked, word)
            self.refused(errors.NotThere, {"word": word}, hall.far, word, 3)
            self.refused(errors.NotThere, {"word": word}, hall.tolls, word, 3)
        for folk in (7, -1, 10 ** 59, True, False, None, "a", (), [0], [[]]):
            self.refused(errors.NoFolk, {"folk": folk}, hall.first_at, folk, TWO)
            self.refused(errors.NoFolk, {"folk": folk}, hall.first_at, folk, ONE)
            self.refused(errors.NoFolk, {"folk": folk}, hall.first_meet, folk, 0)
            self.refused(errors.NoFolk, {"folk": folk}, hall.first_meet, folk, "x")
            self.refused(errors.NoFolk, {"folk": folk}, hall.first_meet, 0, folk)
            self.refused(errors.NoFolk, {"folk": folk}, hall.paper, folk, 3)
            self.refused(errors.NoFolk, {"folk": folk}, hall.was, folk, 0)
            self.refused(errors.NoFolk, {"folk": folk}, hall.was, folk, None)
        for spot in brute.THINGS + [ONE, (True, -2)]:
            self.refused(errors.NoSpot, {"number": 0}, hall.first_at, 0, spot)
        for moment in (-1, 6, 10 ** 59, -10 ** 59, True, False, None, "0", (), [0], brute.nested(100)):
            self.refused(errors.NoMoment, {"moment": moment}, hall.was, 0, moment)


class Pasts(Case):
    def test_behind_all_deeds_of_a_moment(self):
        hall = Hall(SQUARE)
        hall.row("a", [ONE, FOUR, ONE])
        hall.go(3)
        hall.carry(1, FOUR)
        hall.carry(1, THREE)
        hall.go(0)
        hall.carry(0, TWO)
        hall.ring("b", [ONE, FOUR, ONE, FOUR])
        hall.go(MOST)
        self.same([hall.was(1, moment) for moment in (0, 1, 2, 3, 4, MOST)], [FOUR, ONE, ONE, THREE, ONE, ONE])
        self.same([hall.was(0, moment) for moment in (0, 2, 3, MOST + 3)], [ONE, ONE, TWO, TWO])
        self.same([hall.was(3, moment) for moment in (3, 4, 5, MOST + 3)], [ONE, FOUR, ONE, ONE])
        for moment in (2, 0, MOST + 4):
            self.refused(errors.NoMoment, {"moment": moment}, hall.was, 3, moment)

    def test_in_the_row_of_then(self):
        hall = Hall(SQUARE)
        hall.ring("a", [ONE, FOUR, ONE, FOUR])
        hall.go(1)
        hall.unclose(3)
        hall.go(1)
        hall.part(1, "b")
        hall.go(1)
        hall.hook("b", "a")
        hall.go(2)
        slow = SlowHall(2, brute.settings(2))
        for deed in hall.deeds():
            slow.do(deed[0], *[list(part) if isinstance(part, tuple) else part for part in deed[1:]])
        for folk in range(4):
            self.same([hall.was(folk, moment) for moment in range(6)], slow.course[folk])

    def test_taken_back(self):
        hall = Hall(SQUARE)
        hall.row("a", [ONE])
        hall.go(2)
        hall.row("b", [TWO])
        hall.go(7)
        self.assertIsNone(hall.back())
        hall.back()
        self.same((hall.now(), hall.words()), (2, ["a"]))
        self.refused(errors.NoMoment, {"moment": 3}, hall.was, 0, 3)
        hall.row("c", [FOUR])
        # Numbers that were taken back are given again.
        self.same(hall.folk_of("c"), [1])
        self.same(hall.was(1, 2), FOUR)
        for _ in range(3):
            hall.back()
        self.same(self.told(hall), ([], [], [], 0, []))
        self.refused(errors.NoDeed, {}, hall.back)


class Meetings(Case):
    def test_wherever_they_are(self):
        hall = Hall(SQUARE)
        hall.ring("a", [ONE, FOUR, ONE, FOUR])
        hall.row("b", [FOUR, ONE, FOUR, ONE, TWO])
        self.same([hall.first_meet(folk, 4) for folk in (0, 1, 2, 3)], [1, 0, 1, 0])
        self.same([hall.first_meet(4, folk) for folk in (0, 1, 2, 3)], [1, 0, 1, 0])
        slow = SlowHall(2, brute.settings(2))
        slow.do("ring", "a", [ONE, FOUR, ONE, FOUR])
        slow.do("row", "b", [FOUR, ONE, FOUR, ONE, TWO])
        for one, other in itertools.product(range(9), repeat=2):
            self.same(hall.first_meet(one, other), slow.first_meet(one, other))
        hall.go(1)
        # Beats are counted from now.
        self.same([hall.first_meet(folk, 4) for folk in (0, 1)], [0, 1])

    def test_first_at_is_counted_from_now(self):
        hall = Hall(SQUARE)
        hall.ring("a", [ONE, FOUR, ONE, FOUR])
        self.same([hall.first_at(0, spot) for spot in (ONE, FOUR, TWO)], [0, 1, None])
        hall.go(MOST + 1)
        self.same([hall.first_at(0, spot) for spot in (ONE, FOUR, TWO)], [1, 0, None])
        self.same(hall.rest("a"), (0, [1, 2]))
        hall.unclose(3)
        self.same(hall.rest("a"), (1, []))


class Bells(Case):
    def test_rings_by_beats_and_by_carrying(self):
        hall = Hall(SQUARE)
        hall.ring("a", [ONE, FOUR, ONE, FOUR])
        self.assertIsNone(hall.bell("a", 0, [1]))
        hall.bell("b", 0, [-1, -2])
        hall.bell("all", 0, [])
        self.same(hall.bells(), ["a", "b", "all"])
        self.same([hall.tolls("a", beats) for beats in range(5)], [0, 0, 1, 1, 2])
        self.same([hall.tolls("b", beats) for beats in range(5)], [0, 1, 1, 2, 2])
        hall.go(MOST + 1)
        self.same([hall.rung(word) for word in hall.bells()], [MOST // 2, MOST // 2 + 1, 0])
        hall.carry(0, ONE)
        hall.carry(0, TWO)
        self.same([hall.rung(word) for word in hall.bells()], [MOST // 2 + 1, MOST // 2 + 1, 0])
        hall.carry(1, FOUR)
        hall.carry(0, FOUR)
        self.same([hall.rung(word) for word in hall.bells()], [MOST // 2 + 1, MOST // 2 + 2, 0])
        hall.back()
        self.same([hall.rung(word) for word in hall.bells()], [MOST // 2 + 1, MOST // 2 + 1, 0])

    def test_rings_from_its_coming_on(self):
        hall = Hall(SQUARE)
        hall.ring("a", [ONE, FOUR, ONE, FOUR])
        hall.go(4)
        hall.bell("x", 0, [1])
        self.same(hall.rung("x"), 0)
        hall.go(4)
        self.same(hall.rung("x"), 2)
        self.assertIsNone(hall.unbell("x"))
        self.same(hall.bells(), [])
        hall.bell("x", 0, [1])
        self.same(hall.rung("x"), 0)
        hall.back()
        hall.back()
        self.same(hall.rung("x"), 2)

    def test_leaves_with_its_folk(self):
        hall = Hall(SQUARE)
        hall.row("a", [ONE, FOUR, ONE])
        hall.row("b", [ONE])
        hall.bell("x", 1, [1])
        hall.bell("y", 3, [1])
        hall.bell("z", 2, [1])
        hall.part(0, "c")
        hall.drop("c")
        self.same(hall.bells(), ["y"])
        for word in ("x", "z"):
            self.refused(errors.NotThere, {"word": word}, hall.rung, word)
            self.refused(errors.NotThere, {"word": word}, hall.tolls, word, 1)
        hall.bell("x", 0, [2])
        self.same(hall.bells(), ["y", "x"])
        hall.back()
        hall.back()
        self.same(hall.bells(), ["x", "y", "z"])

    def test_goes_on_with_its_folk_in_another_row(self):
        hall = Hall(SQUARE)
        hall.row("a", [ONE, FOUR, ONE, FOUR])
        hall.bell("x", 1, [1])
        hall.part(0, "b")
        self.same(hall.tolls("x", 5), 0)
        hall.hook("a", "b")
        self.same(hall.tolls("x", 5), 1)

    def test_deeds(self):
        hall = Hall(SQUARE)
        hall.row("a", [ONE])
        hall.bell("x", 0, [2, 1, 2])
        hall.bell("y", 0, [])
        hall.unbell("x")
        self.same(hall.deeds()[1:], [("bell", "x", 0, (2, 1, 2)), ("bell", "y", 0, ()), ("unbell", "x")])


class ByTheWords(Case):
    """Halls of any deeds, beside slow ones that go beat by beat."""

    WORDS = ("a", "b", "c", "abcdefgh")

    def random_deed(self, chance, slow, spots):
        word, other = chance.choice(self.WORDS), chance.choice(self.WORDS)
        folk = chance.choice(list(slow.came) + [slow.next, slow.next - 1]) if chance.random() < 0.97 else None
        spot = chance.choice(spots) if chance.random() < 0.97 else chance.choice([None, (0,), spots[0] + (1,), [1]])
        stand = [chance.choice(spots) for _ in range(chance.randint(1, 6))]
        if chance.random() < 0.4:
            pair = chance.choice(spots), chance.choice(spots)
            stand = [pair[at & 1] for at in range(chance.randint(1, 8))]
        if chance.random() < 0.05:
            stand[chance.randrange(len(stand))] = spot
        sides = [cut * chance.choice((1, -1)) for cut in range(1, slow.many + 1) if chance.random() < 0.5]
        return chance.choice([
            ("row", word, stand), ("ring", word, stand), ("go", chance.choice((0, 1, 1, 2, 3, 6))), ("go", 1),
            ("carry", folk, spot), ("part", folk, word), ("unclose", folk), ("hook", word, other), ("close", word),
            ("drop", word), ("bell", word, folk, sides), ("bell", other, folk, sides), ("unbell", word), ("back",),
            ("part", folk, other), ("hook", word, other), ("hook", other, word), ("close", other),
        ])

    def result(self, asked, *handed):
        try:
            return brute.shape(asked(*handed))
        except REFUSALS as refusal:
            return type(refusal).__name__, brute.shape(list(vars(refusal).items()))

    def check_told(self, chance, town, hall, slow, spots):
        self.same((hall.words(), hall.now(), hall.bells()), (slow.words(), slow.moment, list(slow.chimes)))
        self.same(hall.deeds(), slow.deeds)
        self.same([(hall.folk_of(word), hall.is_ring(word), hall.stand(word)) for word in hall.words()],
                  [(slow.bands[word], slow.rings[word], slow.stand(word)) for word in slow.bands])
        self.same([hall.rung(word) for word in hall.bells()], [chime[2] for chime in slow.chimes.values()])
        self.same([[hall.was(folk, slow.came[folk] + at) for at in range(len(slow.course[folk]))] for folk in slow.came],
                  list(slow.course.values()))
        beats = chance.randint(0, 9)
        later = slow.on(beats)
        self.same([hall.far(word, beats) for word in hall.words()], [later.stand(word) for word in slow.words()])
        self.same([hall.rung(word) + hall.tolls(word, beats) for word in hall.bells()],
                  [chime[2] for chime in later.chimes.values()])
        for folk in slow.came:
            band = slow.word_of(folk)
            at = slow.bands[band].index(folk)
            self.assertIs(is_paper(town, slow.stand(band), at, beats, later.here(folk), hall.paper(folk, beats),
                                   ring=slow.rings[band]), True)
        folk, other = [chance.choice(list(slow.came) + [slow.next]) for _ in range(2)]
        spot, word = chance.choice(spots), chance.choice(self.WORDS)
        moment = chance.randint(-1, slow.moment + 1)
        for name, *handed in (("first_at", folk, spot), ("first_meet", folk, other), ("rest", word),
                              ("was", folk, moment), ("stand", word)):
            self.assertEqual(self.result(getattr(hall, name), *handed), self.result(getattr(slow, name), *handed), name)

    def test_halls_of_any_deeds(self):
        chance = random.Random(151)
        done, refused = {}, {}
        towns = list(brute.plain_towns(152, 60, 3))
        for _ in range(250):
            town, spots = chance.choice(towns)
            hall, slow = Hall(town), SlowHall(len(town), spots)
            for _ in range(chance.randint(5, 40)):
                name, *handed = self.random_deed(chance, slow, spots)
                due = self.result(slow.do, name, *handed)
                self.assertEqual(self.result(getattr(hall, name), *handed), due, (name, handed))
                if due == brute.shape(None):
                    done[name] = done.get(name, 0) + 1
                else:
                    refused[due[0]] = refused.get(due[0], 0) + 1
                self.assertEqual(hall.now(), slow.moment)
            self.check_told(chance, town, hall, slow, spots)
        self.assertEqual(len(done), 12)
        self.assertGreater(min(done.values()), 8, done)
        self.assertGreaterEqual(set(refused), {"IsThere", "NotThere", "NotRow", "NotRing", "NoFolk", "NoHands", "NoDeed",
                                               "TooFew", "NoSpot", "NoQuarter"}, refused)

    def test_sixty_cuts_and_sixty_folk(self):
        chance = random.Random(153)
        town = Town(60, path(60))
        spots = town.spots()
        for ring in (False, True):
            hall, slow = Hall(town), SlowHall(60, spots)
            stand = [spots[(0, 60)[at & 1]] for at in range(60)]
            stand[7] = spots[31]
            for deed in (("ring" if ring else "row", "a", stand), ("bell", "x", 30, [17]), ("bell", "y", 59, [-60]),
                         ("go", 11), ("carry", 3, spots[9]), ("go", 26)):
                slow.do(*deed)
                getattr(hall, deed[0])(*deed[1:])
            self.check_told(chance, town, hall, slow, spots)
