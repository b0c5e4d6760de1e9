"""Makers: trees, floors, products and joinings, each told as a number of cuts, bans and spots."""

from meetrow.bans import MOST_CUTS
from meetrow.errors import TooMany
from meetrow.plain import bans_of
from meetrow.sides import side_of
from meetrow.towns import MOST_SPOTS
from meetrow.ways import crossed


def tree(elders):
    """The tree in which a street leads to each spot from 1 on from its elder."""
    many = len(elders)
    _refuse_cuts(many)
    spots = [tuple([-cut for cut in range(1, many + 1)])]
    for number, elder in enumerate(elders, start=1):
        spots.append(crossed(spots[elder], number))
    return _made(many, spots)


def floor(wide, high):
    """The floor of so many streets wide and so many high."""
    _refuse_cuts(wide + high)
    _refuse_spots((wide + 1) * (high + 1))
    firsts = [_steps(wide, x) for x in range(wide + 1)]
    seconds = [_shifted(_steps(high, y), wide) for y in range(high + 1)]
    return _made(wide + high, [one + two for two in seconds for one in firsts])


def _steps(long, at):
    """The sides of the spot that stands so far along a path of so many streets."""
    return tuple([side_of(cut, at >= cut) for cut in range(1, long + 1)])


def product(town, other):
    """The product of two towns: all pairs of their spots."""
    firsts, seconds = _parts(town, other)
    _refuse_spots(len(firsts) * len(seconds))
    return _made(len(town) + len(other), [one + two for one in firsts for two in seconds])


def joined(town, spot, other, other_spot):
    """Two towns joined at a spot of each."""
    firsts, seconds = _parts(town, other)
    _refuse_spots(len(firsts) + len(seconds) - 1)
    beside = _shifted(other_spot, len(town))
    spots = [one + beside for one in firsts] + [spot + two for two in seconds if two != beside]
    return _made(len(town) + len(other), spots)


def _parts(town, other):
    """The spots of both towns, the cuts of the second numbered on; refused where there are too many of either."""
    _refuse_cuts(len(town) + len(other))
    return town.spots(), [_shifted(spot, len(town)) for spot in other.spots()]


def _shifted(spot, by):
    """The sides of a spot, their cuts numbered on from so many."""
    return tuple([side + by if side > 0 else side - by for side in spot])


def _refuse_cuts(many):
    if many > MOST_CUTS:
        raise TooMany(MOST_CUTS)


def _refuse_spots(many):
    if many > MOST_SPOTS:
        raise TooMany(MOST_SPOTS)


def _made(many, spots):
    return many, bans_of(many, spots), spots
