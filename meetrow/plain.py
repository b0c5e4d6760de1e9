"""The plain form of bans: no cut one-sided, no two cuts alike, and each ban that holds told."""

from meetrow.masks import bit, closure
from meetrow.sides import all_sides


def plain(many, bans):
    """The plain form (many, bans, table) of bans, or None where nothing is let."""
    leads = closure(many, bans)
    kept = []
    table = []
    for cut in range(1, many + 1):
        falls = bool(leads[cut] & bit(-cut))
        rises = bool(leads[-cut] & bit(cut))
        if falls and rises:
            return None
        if falls or rises:
            table.append(rises)
            continue
        side = _new_side(leads, kept, cut)
        if side > len(kept):
            kept.append(cut)
        table.append(side)
    return (len(kept), _plain_bans(leads, kept), tuple(table))


def _new_side(leads, kept, cut):
    """The new side for a cut: of the kept cut that it is alike with, else of a cut that is new."""
    for number, least in enumerate(kept, start=1):
        for elder, side in ((least, number), (-least, -number)):
            if leads[cut] & bit(elder) and leads[elder] & bit(cut):
                return side
    return len(kept) + 1


def _plain_bans(leads, kept):
    """All bans of two new sides that no let setting has both, rising."""
    sides = all_sides(len(kept))
    elder = {side: kept[abs(side) - 1] * (1 if side > 0 else -1) for side in sides}
    return [
        (one, other)
        for one in sides
        for other in sides
        if abs(one) < abs(other) and leads[elder[one]] & bit(-elder[other])
    ]


def bans_of(many, spots):
    """The bans, in plain form, of the town that has just these spots."""
    sides = all_sides(many)
    # For each side a number with a bit for each spot that is on it.
    on = {side: 0 for side in sides}
    for number, spot in enumerate(spots):
        for side in spot:
            on[side] |= 1 << number
    return [(one, other) for one in sides for other in sides if abs(one) < abs(other) and not on[one] & on[other]]
