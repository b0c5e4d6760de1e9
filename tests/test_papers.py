import copy
import itertools
import random
import unittest

from meetrow.beats import behind
from meetrow.papers import is_paper, paper
from meetrow.towns import Town
from meetrow.ways import streets_at
from tests import brute
from tests.test_beats import FAR, swinging
from tests.test_towns import path

WORDS = ("before", "behind", "turns")


def away(stand, folk, step, ring):
    """The numbers of those that stand just so many folk before and behind; none so many as there are folk."""
    many = len(stand)
    if step >= many:
        return []
    if ring:
        return [(folk - step) % many, (folk + step) % many]
    return [other for other in (folk - step, folk + step) if 0 <= other < many]


def shown(stand, folk, beats, cut, word, step, ring):
    """The side that an entry shows, straight from the words, None where it isn't so."""
    held = brute.held(stand, cut, ring)

    def free(least):
        return not [other for near in range(min(least, len(stand))) for other in away(stand, folk, near, ring)
                    if other in held]

    if word == "turns":
        own = stand[folk][cut - 1]
        return (-own if beats % 2 else own) if step == 0 and free(beats) else None
    there = folk - step if word == "before" else folk + step
    if ring and step < len(stand):
        there %= len(stand)
    if not 0 <= there < len(stand) or step < 0 or step > beats or there not in held or not free(step):
        return None
    return stand[there][cut - 1]


def all_papers(town, stand, folk, beats, spot, ring):
    """For each street at the spot all entries that are so and show its side."""
    return [
        [(cut, word, step) for word in WORDS for step in range(len(stand) + 2)
         if shown(stand, folk, beats, cut, word, step, ring) == spot[cut - 1]]
        for cut in streets_at(town, spot)
    ]


class Papers(unittest.TestCase):
    def same(self, told, due):
        self.assertEqual(brute.shape(told), brute.shape(due))

    def test_a_paper(self):
        town = Town(2, [])
        stand = [(1, 2), (-1, -2), (1, 2), (1, -2), (-1, 2)]
        self.same(paper(town, stand, 1, 0), ((1, "turns", 0), (2, "turns", 0)))
        self.same(paper(town, stand, 1, 5), ((1, "before", 1), (2, "before", 1)))
        self.same(paper(town, stand, 2, 5), ((1, "before", 0), (2, "before", 2)))
        self.same(paper(town, stand, 2, 1), ((1, "before", 0), (2, "turns", 0)))

    def test_papers_by_the_words(self):
        chance = random.Random(51)
        known = {word: 0 for word in WORDS}
        for town, spots, stand, ring in brute.stands(52, 400, 6):
            for folk in range(len(stand)):
                beats = chance.choice((0, 1, 2, 3, 4, 9, FAR, FAR - 1))
                before = copy.deepcopy(stand)
                told = paper(town, stand, folk, beats, ring=ring)
                here = behind(stand, beats, ring=ring)[folk]
                fit = all_papers(town, stand, folk, beats, here, ring)
                self.assertIsInstance(told, tuple)
                self.assertEqual(len(told), len(fit))
                for entry, entries in zip(told, fit):
                    self.assertIn(brute.shape(entry), [brute.shape(one) for one in entries])
                    known[entry[1]] += 1
                self.assertIs(is_paper(town, stand, folk, beats, here, told, ring=ring), True)
                self.same(paper(town, stand, folk, beats, ring=ring), told)
                self.assertEqual(stand, before)
                if not ring:
                    self.same(paper(town, stand, folk, beats), told)
                    self.assertIs(is_paper(town, stand, folk, beats, here, told), True)
        self.assertGreater(min(known.values()), 20)

    def test_only_the_right_spot_has_papers(self):
        for town, spots, stand, ring in brute.stands(53, 80, 5):
            for folk in range(len(stand)):
                for beats in (0, 1, 2, 3, FAR):
                    here = behind(stand, beats, ring=ring)[folk]
                    for spot in spots:
                        fit = all_papers(town, stand, folk, beats, spot, ring)
                        self.assertEqual(all(fit), spot == here)
                        told = tuple(entries[0] if entries else (cut, "turns", 0)
                                     for cut, entries in zip(streets_at(town, spot), fit))
                        self.assertIs(is_paper(town, stand, folk, beats, spot, told, ring=ring), spot == here)

    def test_each_entry_by_the_words(self):
        found = {True: 0, False: 0}
        for town, spots, stand, ring in brute.stands(54, 60, 5):
            for folk in range(len(stand)):
                for beats in (0, 1, 2, 3, 10 ** 9):
                    here = behind(stand, beats, ring=ring)[folk]
                    told = paper(town, stand, folk, beats, ring=ring)
                    for at, (cut, _, _) in enumerate(told):
                        for word, step in itertools.product(WORDS, range(-1, len(stand) + 3)):
                            entry = (cut, word, step)
                            due = shown(stand, folk, beats, cut, word, step, ring) == here[cut - 1]
                            thing = told[:at] + (entry,) + told[at + 1:]
                            self.assertIs(is_paper(town, stand, folk, beats, here, thing, ring=ring), due,
                                          (stand, ring, folk, beats, entry))
                            found[due] += 1
        self.assertGreater(min(found.values()), 300)

    def test_the_greatest_step_and_one_beyond(self):
        town = Town(1, [])
        stand = swinging(60)
        for folk, word, step in ((29, "before", 29), (30, "behind", 29), (1, "before", 1), (58, "behind", 1)):
            here = behind(stand, step)[folk]
            self.same(paper(town, stand, folk, FAR), ((1, word, step),))
            for beats, due in ((step, True), (step + 1, True), (FAR, True), (step - 1, False)):
                there = behind(stand, beats)[folk]
                self.assertIs(is_paper(town, stand, folk, beats, there, ((1, word, step),)), due)
                self.assertIs(is_paper(town, stand, folk, beats, there, ((1, "turns", 0),)), beats <= step)
            for other in (step - 1, step + 1, -step, 10 ** 59, -10 ** 59):
                self.assertIs(is_paper(town, stand, folk, FAR, here, ((1, word, other),)), False)

    def test_both_ways_are_as_far(self):
        town = Town(1, [])
        row = swinging(7)
        here = behind(row, 9)[3]
        self.assertIs(is_paper(town, row, 3, 9, here, ((1, "before", 3),)), True)
        self.assertIs(is_paper(town, row, 3, 9, here, ((1, "behind", 3),)), True)
        self.assertIs(is_paper(town, row, 0, 9, row[0], ((1, "before", 0),)), True)
        self.assertIs(is_paper(town, row, 0, 9, row[0], ((1, "behind", 0),)), True)
        self.assertIs(is_paper(town, row, 6, 0, row[6], ((1, "behind", 0),)), True)
        self.assertIs(is_paper(town, row, 6, 0, row[6], ((1, "turns", 0),)), True)
        self.assertIs(is_paper(town, row, 6, 1, row[6], ((1, "turns", 0),)), False)

    def test_round_and_round(self):
        town = Town(1, [])
        ring = swinging(5)
        self.assertEqual(brute.held(ring, 1, True), [0, 4])
        for folk, step, word in ((1, 1, "before"), (3, 1, "behind"), (2, 2, "before"), (2, 2, "behind")):
            here = behind(ring, 7, ring=True)[folk]
            self.assertIs(is_paper(town, ring, folk, 7, here, ((1, word, step),), ring=True), True)
        here = behind(ring, 7, ring=True)[1]
        for step in (0, 2, 3, 4, 5, 6, 10, 11):
            for word in ("before", "behind"):
                self.assertIs(is_paper(town, ring, 1, 7, here, ((1, word, step),), ring=True), False)
        for step in (5, 10):
            self.assertIs(is_paper(town, ring, 0, 7, ring[0], ((1, "before", step),), ring=True), False)
            self.assertIs(is_paper(town, ring, 0, 7, ring[0], ((1, "behind", step),), ring=True), False)

    def test_rings_that_swing(self):
        town = Town(2, [])
        ring = [(1, 2), (-1, 2), (1, -2), (-1, -2)]
        for beats in (0, 1, 2, 60, 61, FAR, FAR - 1):
            there = behind(ring, beats, ring=True)
            for folk in range(4):
                told = paper(town, ring, folk, beats, ring=True)
                self.same(told[0], (1, "turns", 0))
                self.assertIs(is_paper(town, ring, folk, beats, there[folk], told, ring=True), True)
                for step in (1, 2, 4):
                    for word in WORDS:
                        wrong = ((1, word, step), told[1])
                        self.assertIs(is_paper(town, ring, folk, beats, there[folk], wrong, ring=True), False)

    def test_rows_fewer_more_and_exchanged(self):
        town = Town(4, [(1, 2)])
        stand = [(1, -2, 3, 4), (-1, 2, -3, -4), (1, -2, 3, 4), (-1, -2, 3, -4)]
        for ring in (False, True):
            for folk, beats in itertools.product(range(4), (0, 1, 2, 7)):
                here = behind(stand, beats, ring=ring)[folk]
                told = paper(town, stand, folk, beats, ring=ring)
                self.assertIs(is_paper(town, stand, folk, beats, here, told, ring=ring), True)
                others = [told[:at] + told[at + 1:] for at in range(len(told))]
                others += [told[:at] + told[at:at + 1] + told[at:] for at in range(len(told))]
                others += [told[:at] + told[at:at + 2][::-1] + told[at + 2:] for at in range(len(told) - 1)]
                others += [told + ((5, "turns", 0),), ((0, "turns", 0),) + told, (), told + ((),), told[::-1]]
                others += [told[:at] + ((-cut, word, step),) + told[at + 1:]
                           for at, (cut, word, step) in enumerate(told)]
                for other in others:
                    self.assertIs(is_paper(town, stand, folk, beats, here, other, ring=ring), False)

    def test_no_paper_of_anything(self):
        town = Town(2, [])
        stand = [(1, 2), (1, 2), (-1, -2)]
        right = ((1, "before", 0), (2, "before", 0))
        self.assertIs(is_paper(town, stand, 1, 4, (1, 2), right), True)
        entries = [
            [1, "before", 0], (1, "before"), (1, "before", 0, 0), (), (True, "before", 0), (1, "before", False),
            ("1", "before", 0), (None, "before", 0), ((1,), "before", 0), (1, "Before", 0), (1, "beforex", 0),
            (1, "", 0), (1, None, 0), (1, 0, 0), (1, ("before",), 0), (1, ["before"], 0), (1, "before", "0"),
            (1, "before", None), (1, "before", (0,)), (1, "before", [0]), (1, "before", -1), (1, "before", 1),
            (2, "before", 0), (0, "before", 0), (-1, "before", 0), (10 ** 59, "before", 0), (1, "turns", 0),
            (1, "before", brute.nested(97)), (1, brute.nested(97), 0), (brute.nested(97), "before", 0), "123",
            (1, "turns", False), (1, "turns", True),
        ] + brute.THINGS
        for entry in entries:
            with self.subTest(entry=str(entry)[:40]):
                self.assertIs(is_paper(town, stand, 1, 4, (1, 2), (entry, right[1])), False)
        things = [list(right), right[:1], right + right, [], {}, "ab", ("ab", "cd"), (right, right), (right,),
                  brute.nested(100), brute.nested(100, lambda inner: (inner, right[1]))] + brute.THINGS
        for thing in things:
            with self.subTest(thing=str(thing)[:40]):
                self.assertIs(is_paper(town, stand, 1, 4, (1, 2), thing), False)
        self.assertIs(is_paper(town, stand, 1, 0, (1, 2), ((1, "turns", False), right[1])), False)

    def test_no_cuts_and_sixty(self):
        self.same(paper(Town(0, []), [()], 0, FAR), ())
        self.assertIs(is_paper(Town(0, []), [()], 0, FAR, (), ()), True)
        self.assertIs(is_paper(Town(0, []), [()], 0, FAR, (), []), False)
        for town in (Town(60, []), Town(60, path(60))):
            first, last = tuple(range(1, 61)), tuple(range(-1, -61, -1))
            for ring, stand in ((False, [first, last] * 30), (True, [first, last] * 30), (True, [first, last, first])):
                for folk, beats in itertools.product((0, 1, 29), (0, 1, 29, FAR)):
                    if folk >= len(stand):
                        continue
                    here = behind(stand, beats, ring=ring)[folk]
                    told = paper(town, stand, folk, beats, ring=ring)
                    self.assertEqual([cut for cut, _, _ in told], streets_at(town, here))
                    self.assertIs(is_paper(town, stand, folk, beats, here, told, ring=ring), True)
                    other = last if here == first else first
                    self.assertIs(is_paper(town, stand, folk, beats, other, told, ring=ring), False)
