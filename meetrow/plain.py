"""The plain form of bans: no cut one-sided, no two cuts alike, and each ban that holds told.

All of it hangs on what each side leads to, a mask for each: of bans by their roads, of spots by those that are on it.
"""

from meetrow.masks import bits_of, closure
from meetrow.sides import all_sides


def plain(many, bans):
    """The plain form (many, bans, table) of bans, or None where nothing is let."""
    return form_of(many, closure(many, bans))


def form_of(many, leads):
    """The plain form by what each side leads to, or None where nothing is let."""
    told = table_of(many, leads)
    if told is None:
        return None
    kept, table = told
    return (len(kept), bans_led(many, leads, kept), tuple(table))


def table_of(many, leads):
    """The cuts that are kept and an entry for each cut, or None where nothing is let."""
    kept = []
    table = []
    bits = bits_of(many)
    # Two sides lead to each other just where they lead to the same ones.
    entries = {}
    for cut in range(1, many + 1):
        falls = bool(leads[cut] & bits[-cut])
        rises = bool(leads[-cut] & bits[cut])
        if falls and rises:
            return None
        if not falls and not rises and leads[cut] not in entries:
            kept.append(cut)
            entries[leads[cut]] = len(kept)
            entries[leads[-cut]] = -len(kept)
        table.append(rises if falls or rises else entries[leads[cut]])
    return kept, table


def bans_led(many, leads, kept):
    """All bans of two sides of the kept cuts, numbered anew, that no let setting has both, rising."""
    pairs = [pair for new, cut in enumerate(kept, start=1) for pair in ((new, cut), (-new, -cut))]
    bits = bits_of(many)
    strikes = [(new, bits[-elder]) for new, elder in pairs]
    return [
        (one, other)
        for at, (one, elder) in enumerate(pairs)
        for other, strike in strikes[at // 2 * 2 + 2 :]
        if leads[elder] & strike
    ]


def bans_of(many, spots):
    """The bans, in plain form, of the town that has just these spots."""
    return bans_led(many, leads_on(many, spots), list(range(1, many + 1)))


def leads_on(many, spots):
    """For each side the mask of all sides on which all of the spots are that are on it."""
    on = _spots_on(many, spots)
    sides = all_sides(many)
    # The highest bit is written first.
    strikes = [on[-side] for side in sides][::-1]
    return {side: int("".join(["0" if on[side] & strike else "1" for strike in strikes]), 2) for side in sides}


def _spots_on(many, spots):
    """For each side a number with a bit for each of the spots that is on it."""
    on = {}
    for cut in range(1, many + 1):
        on[cut] = int("".join(["1" if spot[cut - 1] > 0 else "0" for spot in spots]), 2)
        on[-cut] = (1 << len(spots)) - 1 - on[cut]
    return on
