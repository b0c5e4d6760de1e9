import copy
import unittest

from meetrow.plain import plain
from tests import brute


def slow_plain(many, bans):
    """The plain form from the settings that are let, None where there are none."""
    spots = brute.let(many, bans)
    if not spots:
        return None
    kept, table = [], []
    for cut in range(1, many + 1):
        column = [spot[cut - 1] > 0 for spot in spots]
        if all(column) or not any(column):
            table.append(column[0])
            continue
        turned = [not on for on in column]
        known = [elder for _, elder in kept]
        if column in known:
            table.append(known.index(column) + 1)
        elif turned in known:
            table.append(-known.index(turned) - 1)
        else:
            kept.append((cut, column))
            table.append(len(kept))
    fresh = {tuple(at if on else -at for at, on in enumerate(row, 1))
             for row in zip(*[column for _, column in kept])}
    told = [(one, other) for one in brute.sides(len(kept)) for other in brute.sides(len(kept))
            if abs(one) < abs(other) and not any(one in spot and other in spot for spot in fresh)]
    return (len(kept), told, tuple(table))


class Plain(unittest.TestCase):
    def same(self, many, bans, due):
        self.assertEqual(brute.shape(plain(many, bans)), brute.shape(due))

    def test_as_told_by_the_settings(self):
        none = 0
        for many, bans in brute.many_bans(4, 1500, 5, 9):
            before = copy.deepcopy(bans)
            due = slow_plain(many, bans)
            none += due is None
            self.same(many, bans, due)
            self.assertEqual(bans, before)
        self.assertGreater(none, 20)

    def test_no_cuts_and_no_bans(self):
        self.same(0, [], (0, [], ()))
        self.same(1, [], (1, [], (1,)))
        self.same(60, [], (60, [], tuple(range(1, 61))))

    def test_nothing_let(self):
        self.assertIsNone(plain(3, [(1, 2), (1, -2), (-1, 3), (-1, -3)]))

    def test_one_sided(self):
        self.same(2, [(1, 2), (1, -2)], (1, [], (False, 1)))
        self.same(2, [(-1, 2), (-1, -2)], (1, [], (True, 1)))
        self.same(2, [(-1, 2), (-1, -2), (1, 2)], (0, [], (True, False)))

    def test_alike(self):
        self.same(2, [(1, 2), (-1, -2)], (1, [], (1, -1)))
        self.same(2, [(1, -2), (-1, 2)], (1, [], (1, 1)))
        self.same(3, [(2, -3), (-2, 3)], (2, [], (1, 2, 2)))
        self.same(4, [(2, 4), (-2, -4), (1, 4)], (3, [(1, -2)], (1, 2, 3, -2)))

    def test_true_is_not_the_side_one(self):
        _, _, table = plain(2, [(-1, 2), (-1, -2)])
        self.assertIs(table[0], True)
        self.assertIsNot(table[1], True)

    def test_bans_that_follow_are_told_once_and_rise(self):
        self.same(3, [(3, -2), (2, 1), (1, 2), (3, -2)], (3, [(1, 2), (1, 3), (-2, 3)], (1, 2, 3)))
        self.same(3, [(2, 3), (-1, 3), (-1, -2)], (3, [(-1, -2), (-1, 3), (2, 3)], (1, 2, 3)))

    def test_sixty_cuts(self):
        pairs = [(one, other) for one in range(1, 61) for other in range(one + 1, 61)]
        self.same(60, pairs, (60, pairs, tuple(range(1, 61))))
        self.same(60, [(-b, -a) for a, b in pairs], (60, [(-a, -b) for a, b in pairs], tuple(range(1, 61))))
        steps = [(cut, -cut - 1) for cut in range(1, 60)]
        self.same(60, steps, (60, [(a, -b) for a, b in pairs], tuple(range(1, 61))))
        self.same(60, steps + [(60, -1)], (1, [], (1,) * 60))
        self.same(60, steps + [(-60, 1), (-60, -1)], (59, [(a, -b) for a, b in pairs if b < 60],
                                                      tuple(range(1, 60)) + (True,)))

    def test_two_thousand_bans(self):
        self.same(3, [(1, 2)] * 1999 + [(-2, 1)], (2, [], (False, 1, 2)))

    def test_what_is_told_is_new(self):
        bans = [(1, 2)]
        plain(2, bans)[1].append((1, -2))
        self.same(2, bans, (2, [(1, 2)], (1, 2)))
        self.assertEqual(bans, [(1, 2)])
