"""Masks: sets of sides as whole numbers, with a bit for each side.

So all that one side leads to is kept, joined and compared at once.
"""

from meetrow.sides import all_sides


def bits_of(many):
    """For each side of so many cuts the mask of it alone."""
    return {side: 1 << at for at, side in enumerate(all_sides(many))}


def sides_in(sides, mask):
    """The sides of a mask, rising; all sides are handed in, rising."""
    signs = f"{mask:b}"
    return [side for side, sign in zip(sides, signs[::-1]) if sign == "1"]


def number_of(spot):
    """A spot as a whole number, with a bit for each cut of which it has the number's side."""
    return sum([1 << at for at, side in enumerate(spot) if side > 0])


def majority(one, two, three):
    """The bits that two or three of the numbers have: of spots as numbers, where they meet."""
    return one & two | two & three | one & three


def closure(many, bans):
    """For each side the mask of all sides to which it leads, itself too."""
    bits = bits_of(many)
    leads = dict(bits)
    strikes = {side: bits[-side] for side in bits}
    for one, other in bans:
        leads[one] |= strikes[other]
        leads[other] |= strikes[one]
    rows = list(leads.values())
    for at, middle in enumerate(bits.values()):
        onward = rows[at]
        # What leads on to nothing else leads no one further.
        if onward != middle:
            rows = [row | onward if row & middle else row for row in rows]
    return dict(zip(bits, rows))
