"""Quarters: the spots that have some sides; their gates, what parts two, and wishes."""

from meetrow.errors import NoQuarter


def _quarter_numbered(town, sides, number):
    """The sides of a quarter, refused by its number where it has no spot."""
    if town.clash(sides) is not None:
        raise NoQuarter(number)
    return town.all_following(sides)


def quarter(town, sides):
    """All sides that all spots of a quarter have, rising."""
    return _quarter_numbered(town, sides, 0)


def hull(town, spots):
    """The sides of the least quarter with these spots, rising."""
    return [side for side in spots[0] if all([spot[abs(side) - 1] == side for spot in spots])]


def gate(town, spot, sides):
    """The spot of a quarter that is nearest to a spot."""
    told = {abs(side): side for side in quarter(town, sides)}
    return tuple([told.get(abs(side), side) for side in spot])


def parted(town, sides, other):
    """A side that all spots of the first quarter have and none of the second, or None where they share a spot."""
    first = _quarter_numbered(town, sides, 0)
    second = {side: True for side in _quarter_numbered(town, other, 1)}
    for side in first:
        if -side in second:
            return side
    return None


def _wished(town, wishes):
    """The sides of each wish, refused by the first that has no spot."""
    return [_quarter_numbered(town, wish, number) for number, wish in enumerate(wishes)]


def wish_spot(town, wishes):
    """Any spot that is in all the wishes, or None."""
    return town.spot_on([side for wish in _wished(town, wishes) for side in wish])


def wish_clash(town, wishes):
    """None, or two wishes by their numbers, and a side that all spots of the one have and none of the other."""
    first = {}
    for number, wish in enumerate(_wished(town, wishes)):
        for side in wish:
            if -side in first:
                return (number, first[-side], side)
            first.setdefault(side, number)
    return None


def has_sides(spot, sides):
    """Whether a spot is in the quarter of these sides."""
    return all([spot[abs(side) - 1] == side for side in sides])
