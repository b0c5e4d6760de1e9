"""Masks: sets of sides as whole numbers, with a bit for each side.

So all that one side leads to is kept, joined and compared at once.
"""

from meetrow.sides import all_sides, place


def bit(side):
    """The mask of one side alone."""
    return 1 << place(side)


def mask_of(sides):
    """The mask of all these sides."""
    mask = 0
    for side in sides:
        mask |= bit(side)
    return mask


def sides_in(mask):
    """The sides of a mask, rising."""
    cuts = range(1, (mask.bit_length() + 1) // 2 + 1)
    return [side for cut in cuts for side in (cut, -cut) if mask & bit(side)]


def number_of(spot):
    """A spot as a whole number, with a bit for each cut of which it has the number's side."""
    return sum([1 << at for at, side in enumerate(spot) if side > 0])


def majority(one, two, three):
    """The bits that two or three of the numbers have: of spots as numbers, where they meet."""
    return one & two | two & three | one & three


def closure(many, bans):
    """For each side the mask of all sides to which it leads, itself too."""
    sides = all_sides(many)
    leads = {side: bit(side) for side in sides}
    for one, other in bans:
        leads[one] |= bit(-other)
        leads[other] |= bit(-one)
    for middle in sides:
        for side in sides:
            if leads[side] & bit(middle):
                leads[side] |= leads[middle]
    return leads
