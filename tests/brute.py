"""Slow tellings, straight from the words of the document, to hold the program against."""

import itertools
import random

# Things of any kind that are never a side, a spot, bans, a paper or a word.
THINGS = [
    None, True, False, 0, -1, 7, 10 ** 59, "", "a b", "1", "meet(", (), [], (1,), [1], (None,), [None],
    ((),), [[]], ((1, 2),), [(1, 2, 3)], [[1, 2]], [(1, "2")], ("a", ("b", [1, (2, [])])), (0, (), ()),
]


def nested(depth, hull=lambda inner: [inner]):
    """A thing that many within one another."""
    thing = None
    for _ in range(depth):
        thing = hull(thing)
    return thing


def settings(many):
    """All settings, rising: the side above nought first."""
    return list(itertools.product(*[(cut, -cut) for cut in range(1, many + 1)]))


def let(many, bans):
    """All settings that the bans let, rising."""
    return [one for one in settings(many) if not any(a in one and b in one for a, b in bans)]


def sides(many):
    return [side for cut in range(1, many + 1) for side in (cut, -cut)]


def led(bans, side):
    """All sides to which one leads, grown until nothing comes anew."""
    found = {side}
    while True:
        more = {-b for a, b in bans if a in found} | {-a for a, b in bans if b in found}
        if more <= found:
            return sorted(found, key=lambda s: (abs(s), s < 0))
        found |= more


def is_road(bans, side, other, numbers):
    here = side
    for number in numbers:
        one, two = bans[number]
        assert here in (one, two), (bans, side, other, numbers)
        here = -two if here == one else -one
    return here == other


def random_bans(chance, many, most):
    """A list of at most so many bans of so many cuts."""
    if many < 2:
        return []
    found = []
    for _ in range(chance.randint(0, most)):
        one, other = chance.sample(range(1, many + 1), 2)
        found.append((one * chance.choice((1, -1)), other * chance.choice((1, -1))))
    return found


def many_bans(seed, count=400, cuts=5, most=7):
    """Pairs of a number of cuts and bans, the same for the same seed."""
    chance = random.Random(seed)
    for _ in range(count):
        many = chance.randint(0, cuts)
        yield many, random_bans(chance, many, most)


def shape(thing):
    """A thing with its kinds, so that True is told from 1 and a list from a tuple."""
    if isinstance(thing, (list, tuple)):
        return (type(thing).__name__, [shape(part) for part in thing])
    return (type(thing).__name__, thing)


def plain_towns(seed, count=150, cuts=5, most=7):
    """Pairs of a town and all its spots, as plain bans let them."""
    from meetrow.errors import NotPlain
    from meetrow.towns import Town

    found = 0
    for many, bans in many_bans(seed, count * 20, cuts, most):
        try:
            town = Town(many, bans)
        except NotPlain:
            continue
        yield town, let(many, bans)
        found += 1
        if found == count:
            return
    raise AssertionError("too few towns")
