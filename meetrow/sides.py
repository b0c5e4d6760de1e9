"""Whole numbers, sides, and the order in which sides rise."""


def is_whole(thing):
    """Whether anything is a whole number; a truth is none."""
    return isinstance(thing, int) and not isinstance(thing, bool)


def is_side(many, thing):
    """Whether anything is a side of one of so many cuts."""
    return is_whole(thing) and 1 <= abs(thing) <= many


def are_sides(many, things):
    """Whether all things of a list are sides of one of so many cuts."""
    # Bans are asked for by thousands, so here the question is put without a call for each.
    return all([isinstance(thing, int) and thing is not True and 1 <= abs(thing) <= many for thing in things])


def all_sides(many):
    """All sides of so many cuts, rising."""
    return [side for cut in range(1, many + 1) for side in (cut, -cut)]


def side_of(cut, is_number):
    """The side of a cut that is its number, or its other one."""
    return cut if is_number else -cut


def place(side):
    """The number, from 0, of a side among all sides as they rise."""
    return 2 * abs(side) - (2 if side > 0 else 1)


def rising(sides):
    """A new list of the sides, rising."""
    return sorted(sides, key=place)
