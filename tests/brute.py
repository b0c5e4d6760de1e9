"""Slow tellings, straight from the words of the document, to hold the program against."""

import itertools
import random

# Things of any kind that are never a side, a spot, bans, a paper or a word.
THINGS = [
    None, True, False, 0, -1, 7, 10 ** 59, "", "a b", "1", "meet(", (), [], (1,), [1], (None,), [None],
    ((),), [[]], ((1, 2),), [(1, 2, 3)], [[1, 2]], [(1, "2")], ("a", ("b", [1, (2, [])])), (0, (), ()),
]


def nested(depth, hull=lambda inner: [inner]):
    """A thing that many within one another."""
    thing = None
    for _ in range(depth):
        thing = hull(thing)
    return thing


def settings(many):
    """All settings, rising: the side above nought first."""
    return list(itertools.product(*[(cut, -cut) for cut in range(1, many + 1)]))


def let(many, bans):
    """All settings that the bans let, rising."""
    return [one for one in settings(many) if not any(a in one and b in one for a, b in bans)]


def sides(many):
    return [side for cut in range(1, many + 1) for side in (cut, -cut)]


def led(bans, side):
    """All sides to which one leads, grown until nothing comes anew."""
    found = {side}
    while True:
        more = {-b for a, b in bans if a in found} | {-a for a, b in bans if b in found}
        if more <= found:
            return sorted(found, key=lambda s: (abs(s), s < 0))
        found |= more


def is_road(bans, side, other, numbers):
    here = side
    for number in numbers:
        one, two = bans[number]
        assert here in (one, two), (bans, side, other, numbers)
        here = -two if here == one else -one
    return here == other


def random_bans(chance, many, most):
    """A list of at most so many bans of so many cuts."""
    if many < 2:
        return []
    found = []
    for _ in range(chance.randint(0, most)):
        one, other = chance.sample(range(1, many + 1), 2)
        found.append((one * chance.choice((1, -1)), other * chance.choice((1, -1))))
    return found


def many_bans(seed, count=400, cuts=5, most=7):
    """Pairs of a number of cuts and bans, the same for the same seed."""
    chance = random.Random(seed)
    for _ in range(count):
        many = chance.randint(0, cuts)
        yield many, random_bans(chance, many, most)


def shape(thing):
    """A thing with its kinds, so that True is told from 1 and a list from a tuple."""
    if isinstance(thing, (list, tuple)):
        return (type(thing).__name__, [shape(part) for part in thing])
    return (type(thing).__name__, thing)


def plain_towns(seed, count=150, cuts=5, most=7):
    """Pairs of a town and all its spots, as plain bans let them."""
    from meetrow.errors import NotPlain
    from meetrow.towns import Town

    found = 0
    for many, bans in many_bans(seed, count * 20, cuts, most):
        try:
            town = Town(many, bans)
        except NotPlain:
            continue
        yield town, let(many, bans)
        found += 1
        if found == count:
            return
    raise AssertionError("too few towns")


def beside(stand, folk, ring):
    """The numbers of the one before and the one behind a folk, None where none is."""
    last = len(stand) - 1
    before = folk - 1 if folk > 0 else (last if ring else None)
    behind = folk + 1 if folk < last else (0 if ring else None)
    return before, behind


def beat(stand, ring):
    """Where all go at one beat: of each cut to the side that most of three have."""
    gone = []
    for folk, spot in enumerate(stand):
        before, behind = beside(stand, folk, ring)
        if before is None or behind is None:
            gone.append(spot)
            continue
        three = zip(stand[before], spot, stand[behind])
        gone.append(tuple(one if one in (here, other) else here for one, here, other in three))
    return gone


def beats(stand, many, ring):
    """The stands behind 0, 1, 2 .. so many beats, beat by beat."""
    stands = [list(stand)]
    for _ in range(many):
        stands.append(beat(stands[-1], ring))
    return stands


def held(stand, cut, ring):
    found = []
    for folk, spot in enumerate(stand):
        near = beside(stand, folk, ring)
        if None in near or spot[cut - 1] in [stand[other][cut - 1] for other in near]:
            found.append(folk)
    return found


def stands(seed, count=300, most=8):
    """Tuples (town, all its spots, stand, ring), rows and rings, many of them with folk that swing for long."""
    chance = random.Random(seed)
    towns = list(plain_towns(seed + 1, 40, 4))
    for _ in range(count):
        town, spots = chance.choice(towns)
        ring = chance.random() < 0.5
        folk = chance.randint(3 if ring else 1, most)
        stand = [chance.choice(spots) for _ in range(folk)]
        if chance.random() < 0.5:
            one, other = chance.choice(spots), chance.choice(spots)
            stand = [(one, other)[at & 1] for at in range(folk)]
            if chance.random() < 0.5:
                stand[chance.randrange(folk)] = chance.choice(spots)
        yield town, spots, stand, ring


def long_stands():
    """Pairs (stand, ring) of long rows and rings, to sixty folk, in towns of three cuts and of sixty."""
    chance = random.Random(77)
    for folk, many in ((29, 3), (30, 3), (59, 60), (60, 2), (60, 60)):
        for ring in (False, True):
            swing = [tuple(cut if at & 1 else -cut for cut in range(1, many + 1)) for at in range(folk)]
            yield swing, ring
            mixed = list(swing)
            at = chance.randrange(folk)
            mixed[at] = tuple(side if side & 1 else -side for side in mixed[at])
            yield mixed, ring
