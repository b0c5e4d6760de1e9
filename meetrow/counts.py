"""Counts: how many shortest ways there are between two spots, and the one with a number."""

from meetrow.errors import NoNumber, TooMany
from meetrow.ways import apart, crossed

MOST_APART = 12


def ways_many(town, one, other):
    """How many shortest ways there are from a spot to another one."""
    return _ways_on(town, _unlike(one, other))[0]


def way_at(town, one, other, number):
    """The shortest way with a number, from 0, of all, rising by the cuts of their streets; a list of spots."""
    unlike = _unlike(one, other)
    ways = _ways_on(town, unlike)
    if not 0 <= number < ways[0]:
        raise NoNumber(ways[0])
    done = 0
    spots = [one]
    while len(spots) <= len(unlike):
        for at, side in enumerate(unlike):
            further = done | 1 << at
            many = ways.get(further, 0) if further != done else 0
            if number < many:
                break
            number -= many
        done = further
        spots.append(crossed(spots[-1], abs(side)))
    return spots


def _unlike(one, other):
    """The sides of the other spot that the one hasn't, rising; refused with TooMany where they are too many."""
    if apart(one, other) > MOST_APART:
        raise TooMany(MOST_APART)
    return [side for side, beside in zip(other, one) if side != beside]


def _ways_on(town, unlike):
    """For each set of sides, as a number, that a way may have come to, in how many ways it may go on from there."""
    holders = _holders(town, unlike)
    ways = {(1 << len(unlike)) - 1: 1}
    behind = ways
    for _ in unlike:
        ahead = {}
        for done, many in behind.items():
            for mine, held_by in holders:
                # The last side that was come to is one that no other one there needs.
                if done & mine and not done & held_by:
                    ahead[done - mine] = ahead.get(done - mine, 0) + many
        ways = {**ways, **ahead}
        behind = ahead
    return ways


def _holders(town, unlike):
    """For each side the set of it alone, and that of the others from which it follows: a way comes to these later."""
    follow = [town.follows(side) for side in unlike]
    return [
        (1 << place, sum([1 << at for at, others in enumerate(follow) if at != place and side in others]))
        for place, side in enumerate(unlike)
    ]
