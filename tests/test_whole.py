"""What the document promises over the whole program."""

import copy
import itertools
import random
import unittest

from meetrow import bans, beats, befores, books, counts, crowds, cubes, errors, hall, makers, maps, mends, packs, papers
from meetrow import plain, quarters, rests, settings, tallies, texts, towns, ways, webs, words
from tests import brute
from tests.test_interface import CLASSES, FUNCTIONS
from tests.test_towns import path

MOST = 10 ** 100
BANS = [(1, 2), (-2, 3)]
TOWN = towns.Town(3, BANS)
ONE, TWO, THREE = (1, -2, -3), (-1, 2, 3), (-1, 2, -3)
STAND = [TWO, THREE, ONE, THREE]
CROWD = [(ONE, 3), (TWO, 2)]
WORD = ("meet", "a", "b", ("meet", "a", "c", "c"))
BOOK = (((), (1,), (1, 2)), ())


def some_hall():
    made = hall.Hall(TOWN)
    made.row("a", [TWO, ONE, THREE])
    made.ring("b", [ONE, TWO, ONE, TWO])
    made.bell("a", 3, [-1])
    made.go(5)
    return made


# Of each function of the interface what may be handed in, by its places and by name.
ASKED = {
    bans.are_bans: [(3, BANS), (3, [[1, 2]])], bans.led: [(3, BANS, 1)], bans.road: [(3, BANS, 1, -3), (3, BANS, 1, -1)],
    bans.nothing: [(3, BANS), (2, [(1, 2), (1, -2), (-1, 2), (-1, -2)])], bans.is_nothing: [(3, BANS, (1, (0,), (1,)))],
    plain.plain: [(3, BANS), (3, [(1, 2), (1, -2)])],
    ways.apart: [(ONE, TWO)], ways.is_between: [(ONE, THREE, TWO)], ways.meet: [(ONE, TWO, THREE)],
    ways.streets_at: [(TOWN, ONE)], ways.way: [(TOWN, ONE, TWO)],
    words.is_word: [(WORD,), ([WORD],)], words.show_word: [(WORD,)], words.read_word: [("meet(a, b, c)",), ("meet(a, b)",)],
    words.told_by: [(WORD, {"a": ONE, "b": TWO, "c": THREE, "d": None})], words.parting: [(WORD, "a"), (WORD, WORD)],
    quarters.quarter: [(TOWN, [1]), (TOWN, [1, 2])], quarters.hull: [(TOWN, [ONE, THREE])],
    quarters.gate: [(TOWN, ONE, [3])], quarters.parted: [(TOWN, [1], [3]), (TOWN, [1], [3, 1])],
    quarters.wish_spot: [(TOWN, [[-1], [3]])], quarters.wish_clash: [(TOWN, [[1], [-2], [3]])],
    crowds.crowd_sum: [(CROWD, THREE)], crowds.fair: [(TOWN, CROWD), (TOWN, CROWD, {"within": [-1]})],
    beats.beat: [(STAND,), (STAND, {"ring": True})], beats.behind: [(STAND, MOST), (STAND, 1, {"ring": True})],
    beats.held: [(STAND, 1), (STAND, 2, {"ring": True})], beats.rest: [(STAND,), ([ONE, TWO] * 2, {"ring": True})],
    beats.first_at: [(STAND, 2, THREE), (STAND, 2, TWO)], beats.first_meet: [(STAND, 1, 2), (STAND, 0, 1)],
    papers.paper: [(TOWN, STAND, 2, 9)], papers.is_paper: [(TOWN, STAND, 2, 9, THREE, ((2, "before", 1), (3, "before", 0)))],
    rests.is_at_rest: [(STAND,)], rests.rests: [(TOWN, 5)], rests.rest_at: [(TOWN, 5, 7), (TOWN, 5, -1)],
    befores.befores: [(TOWN, [TWO, THREE, THREE])], befores.before_at: [(TOWN, [TWO, THREE, THREE], 0)],
    webs.town_of_web: [(3, [(0, 1), (1, 2)]), (3, [(0, 1)]), (3, [(0, 1), (1, 2), (2, 0)]), (3, [(0, 0)])],
    webs.web_of: [(TOWN,)], books.book_of: [(TOWN, ONE)], books.is_book: [(3, BOOK)], books.town_of_book: [(BOOK,)],
    cubes.cubes: [(TOWN,)], makers.tree: [([0, 0, 1],)], makers.floor: [(2, 1), (60, 1)], makers.product: [(TOWN, TOWN)],
    makers.joined: [(TOWN, ONE, TOWN, TWO)], maps.led_by: [((1, True), ONE)], maps.is_map: [(TOWN, TOWN, (1, 2, True))],
    maps.map_of: [(TOWN, TOWN, TOWN.spots()), (TOWN, TOWN, TOWN.spots()[::-1])],
    settings.closed: [(3, [TWO, ONE])], settings.plain_of: [(3, [TWO, ONE, THREE])],
    settings.unclosed: [([TWO, ONE],), ([(1, 2, 3), (1, -2, -3), (-1, 2, -3)],)],
    tallies.walked: [(STAND, 2, MOST)], tallies.comings: [(STAND, 2, [-1], MOST)],
    tallies.alike_from: [(STAND, [TWO] + [THREE] * 3)], counts.ways_many: [(TOWN, ONE, TWO)],
    counts.way_at: [(TOWN, ONE, TWO, 0), (TOWN, ONE, TWO, 7)], mends.mend: [(TOWN, STAND), (TOWN, STAND, {"ring": True})],
    texts.show_town: [(TOWN,)], texts.read_town: [("town 2\nban 1 2",), ("town",)], texts.show_stand: [(STAND,)],
    texts.read_stand: [(TOWN, "row\n+--\n-++"), (TOWN, "row")], texts.show_hall: [(some_hall(),)],
    texts.read_hall: [("town 1\nrow a + -\ngo 3",), ("town 1\ngo",)], packs.pack: [(STAND,)],
    packs.unpack: [(TOWN, 1, b"\x80"), (TOWN, 1, b"\xff")],
}
# Of the askings of the classes what may be handed in.
TOWN_ASKED = [("bans",), ("is_spot", ONE), ("follows", 1), ("spots",), ("spot_on", [-1]), ("clash", [1, 2])]
HALL_ASKED = [
    ("town",), ("deeds",), ("words",), ("now",), ("stand", "a"), ("folk_of", "b"), ("is_ring", "b"), ("far", "b", MOST),
    ("rest", "b"), ("first_at", 3, TWO), ("first_meet", 0, 3), ("paper", 4, 7), ("was", 3, 2), ("bells",), ("rung", "a"),
    ("tolls", "a", MOST), ("stand", "x"), ("was", 3, 9),
]
TRUTHS = (bans.are_bans, bans.is_nothing, ways.is_between, words.is_word, papers.is_paper, rests.is_at_rest, books.is_book,
          maps.is_map)


def form(thing):
    """A thing with its kinds, so that towns and halls may be held beside one another."""
    if isinstance(thing, towns.Town):
        return ("Town", str(thing))
    if isinstance(thing, hall.Hall):
        return ("Hall", texts.show_hall(thing))
    if isinstance(thing, (list, tuple)):
        return (type(thing).__name__, [form(part) for part in thing])
    if isinstance(thing, dict):
        return ("dict", [(form(key), form(worth)) for key, worth in thing.items()])
    return brute.shape(thing)


def spoil(thing):
    """Changes each list within a thing."""
    if isinstance(thing, (list, tuple)):
        for part in thing:
            spoil(part)
    if isinstance(thing, list):
        thing.append("spoilt")
        thing.reverse()


def answer(asked, handed):
    """What is told, or which refusal is raised."""
    named = handed[-1] if isinstance(handed[-1] if handed else None, dict) and set(handed[-1]) <= {"ring", "within"} else None
    try:
        return asked(*handed[:-1], **named) if named else asked(*handed)
    except (ValueError, LookupError) as refusal:
        return (type(refusal).__name__, vars(refusal))


class TheSameAgain(unittest.TestCase):
    def check(self, asked, handed):
        before = form(handed)
        first = answer(asked, handed)
        told = form(first)
        self.assertEqual(form(handed), before)
        self.assertEqual(form(answer(asked, handed)), told)
        spoil(first)
        self.assertEqual(form(handed), before)
        self.assertEqual(form(answer(asked, handed)), told)
        return first

    def test_each_function_is_asked(self):
        listed = {(file, row.split("(")[0]) for file, rows in FUNCTIONS.items() for row in rows}
        self.assertEqual({(asked.__module__[8:], asked.__name__) for asked in ASKED}, listed)
        methods = {row.split("(")[0] for row in CLASSES["hall"]["Hall"] + CLASSES["towns"]["Town"]}
        deeds = {"row", "ring", "go", "carry", "part", "unclose", "hook", "close", "drop", "back", "bell", "unbell"}
        names = {name for name, *_ in TOWN_ASKED + HALL_ASKED}
        self.assertEqual(methods - deeds - names, {"__init__", "__eq__", "__len__", "__str__"})

    def test_functions(self):
        for asked, lists in ASKED.items():
            for handed in lists:
                with self.subTest(asked=asked.__name__, handed=str(handed)[:60]):
                    told = self.check(asked, handed)
                    self.assertEqual(isinstance(told, bool), asked in TRUTHS)

    def test_towns_and_halls(self):
        for made, lists in ((towns.Town(3, list(BANS)), TOWN_ASKED), (some_hall(), HALL_ASKED)):
            for name, *handed in lists:
                with self.subTest(name):
                    self.check(getattr(made, name), handed)

    def test_what_is_handed_in_is_copied_where_it_is_kept(self):
        told = list(BANS)
        town = towns.Town(3, told)
        told.clear()
        self.assertEqual(town, TOWN)
        stand, sides = [TWO, ONE], [1]
        made = hall.Hall(town)
        made.row("a", stand)
        made.bell("b", 0, sides)
        stand.clear()
        sides.append(3)
        self.assertEqual(made.deeds(), [("row", "a", (TWO, ONE)), ("bell", "b", 0, (1,))])


class Promise(unittest.TestCase):
    def test_folk_stand_where_it_is_told_and_papers_show_it(self):
        for town, spots, stand, ring in brute.stands(201, 150, 7):
            for gone, due in enumerate(brute.beats(stand, 9, ring)):
                told = beats.behind(stand, gone, ring=ring)
                self.assertEqual(told, due)
                for folk, spot in enumerate(told):
                    self.assertTrue(town.is_spot(spot))
                    slip = papers.paper(town, stand, folk, gone, ring=ring)
                    self.assertTrue(papers.is_paper(town, stand, folk, gone, spot, slip, ring=ring))
                    for other in spots:
                        if other != spot:
                            self.assertFalse(papers.is_paper(town, stand, folk, gone, other, slip, ring=ring))
            # From a told beat on nothing changes but the cuts that go to and fro.
            first, cuts = beats.rest(stand, ring=ring)
            here = beats.behind(stand, first + MOST, ring=ring)
            there = beats.behind(stand, first + MOST + 1, ring=ring)
            for one, other in zip(here, there):
                self.assertEqual([cut for cut, (a, b) in enumerate(zip(one, other), 1) if a != b], cuts)
            self.assertEqual(beats.behind(stand, first + MOST + 2, ring=ring), here)

    def test_of_any_bans_a_town_or_a_paper(self):
        found = {True: 0, False: 0}
        for many, told in brute.many_bans(202, 600, 4, 9):
            paper = bans.nothing(many, told)
            found[paper is None] += 1
            if paper is None:
                few, plain_bans, table = plain.plain(many, told)
                self.assertEqual([maps.led_by(table, spot) for spot in towns.Town(few, plain_bans).spots()],
                                 brute.let(many, told))
            else:
                self.assertTrue(bans.is_nothing(many, told, paper))
                self.assertEqual(brute.let(many, told), [])
        self.assertGreater(min(found.values()), 30)

    def test_of_any_web_its_town_or_what_shows_that_there_is_none(self):
        for many in range(1, 5):
            pairs = list(itertools.combinations(range(many), 2))
            for long in range(len(pairs) + 1):
                for streets in itertools.combinations(pairs, long):
                    told = webs.town_of_web(many, list(streets))
                    if told[0] == "town":
                        web = {frozenset((one, other)) for one, other in itertools.combinations(range(many), 2)
                               if ways.apart(told[3][one], told[3][other]) == 1}
                        self.assertEqual(web, {frozenset(street) for street in streets})
                        self.assertEqual(webs.web_of(towns.Town(told[1], told[2])), (many, sorted(
                            tuple(sorted((self.place(told, one), self.place(told, other)))) for one, other in streets)))
                    else:
                        self.assertIn(told[0], ("apart", "three"))

    def place(self, told, number):
        """The number of a spot among all spots, rising."""
        return sorted(told[3], key=lambda spot: [side < 0 for side in spot]).index(told[3][number])

    def test_what_is_made_is_a_town_and_what_is_shown_is_read(self):
        for town, spots in brute.plain_towns(203, 60, 4):
            self.assertEqual(texts.read_town(texts.show_town(town)), town)
            self.assertEqual(settings.closed(len(town), spots), spots)
            self.assertEqual(settings.plain_of(len(town), spots), (len(town), town.bans(), tuple(range(1, len(town) + 1))))
            for spot in spots[:3]:
                book = books.book_of(town, spot)
                self.assertTrue(books.is_book(len(town), book))
                self.assertEqual(len(books.town_of_book(book).spots()), len(spots))
            for one, other in itertools.product(spots[:4], repeat=2):
                self.assertEqual(counts.way_at(town, one, other, 0)[-1], other)
            stand = spots[:5]
            self.assertEqual(packs.unpack(town, len(stand), packs.pack(stand)), stand)
            self.assertEqual(texts.read_stand(town, texts.show_stand(stand)), (stand, False))

    def test_least_ones_are_mended_to_rest(self):
        chance = random.Random(204)
        town = towns.Town(3, path(3))
        for _ in range(40):
            stand = [chance.choice(town.spots()) for _ in range(5)]
            total, mended = mends.mend(town, stand)
            self.assertTrue(rests.is_at_rest(mended))
            self.assertLessEqual(total, sum(map(ways.apart, stand, beats.behind(stand, 9))))


class Refusals(unittest.TestCase):
    def test_what_is_refused_changes_nothing(self):
        made = some_hall()
        before = form(made), [form(answer(getattr(made, name), tuple(handed))) for name, *handed in HALL_ASKED]
        for name, *handed in [("row", "a", [ONE]), ("ring", "c", [ONE]), ("row", "c", [None]), ("row", "c", [ONE] * 60),
                              ("carry", 99, ONE), ("carry", 0, None), ("part", 2, "c"), ("part", 3, "c"), ("unclose", 0),
                              ("hook", "a", "a"), ("hook", "x", "a"), ("close", "b"), ("drop", "x"), ("bell", "a", 0, []),
                              ("bell", "c", 0, None), ("unbell", "c")]:
            with self.assertRaises((ValueError, LookupError)) as caught:
                getattr(made, name)(*handed)
            self.assertEqual(type(caught.exception).__module__, errors.__name__)
            after = form(made), [form(answer(getattr(made, name), tuple(handed))) for name, *handed in HALL_ASKED]
            self.assertEqual(after, before)

    def test_nothing_is_kept_of_what_was_asked(self):
        town = towns.Town(4, [])
        kept = copy.deepcopy(vars(town))
        for asked in (town.spots, town.bans):
            spoil(asked())
        town.spot_on([1, -1])
        town.clash([1, -1])
        with self.assertRaises(errors.NoBans):
            towns.Town(4, [(1, 1)])
        self.assertEqual(vars(town), kept)
