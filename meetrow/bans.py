"""Bans, the roads by which one side leads to another, and the paper that nothing is let."""

from meetrow.masks import bits_of, closure
from meetrow.sides import are_sides, is_side, is_whole, rising

MOST_CUTS = 60
MOST_BANS = 2000


def are_bans(many, thing):
    """Whether anything is bans of so many cuts."""
    if not is_whole(many) or not 0 <= many <= MOST_CUTS:
        return False
    if not isinstance(thing, list) or len(thing) > MOST_BANS:
        return False
    if not all([isinstance(ban, tuple) and len(ban) == 2 for ban in thing]):
        return False
    if not are_sides(many, [side for ban in thing for side in ban]):
        return False
    return all([abs(one) != abs(other) for one, other in thing])


def led(many, bans, side):
    """All sides to which the side leads, rising, itself too."""
    return rising(_came(bans, side))


def road(many, bans, side, other):
    """A road from a side to another one, as a list of numbers of bans; None where there is none."""
    came = _came(bans, side)
    if other not in came:
        return None
    numbers = []
    here = other
    while here != side:
        number, here = came[here]
        numbers.append(number)
    return numbers[::-1]


def _came(bans, side):
    """Each side to which one leads, with the ban and the side by which one came to it first."""
    steps = _steps(bans)
    came = {side: None}
    queue = [side]
    at = 0
    while at < len(queue):
        here = queue[at]
        at += 1
        for number, onward in steps.get(here, []):
            if onward not in came:
                came[onward] = (number, here)
                queue.append(onward)
    return came


def _steps(bans):
    """For each side of a ban the pairs of a ban's number and the side to which it leads."""
    steps = {}
    for number, (one, other) in enumerate(bans):
        steps.setdefault(one, []).append((number, -other))
        steps.setdefault(other, []).append((number, -one))
    return steps


def nothing(many, bans):
    """The paper that nothing is let, or None where something is."""
    leads = closure(many, bans)
    bits = bits_of(many)
    for cut in range(1, many + 1):
        if leads[cut] & bits[-cut] and leads[-cut] & bits[cut]:
            return (cut, tuple(road(many, bans, cut, -cut)), tuple(road(many, bans, -cut, cut)))
    return None


def is_nothing(many, bans, thing):
    """Whether anything is a paper that the bans let nothing."""
    if not isinstance(thing, tuple) or len(thing) != 3:
        return False
    side, there, back = thing
    if not is_side(many, side):
        return False
    return _is_road(bans, side, -side, there) and _is_road(bans, -side, side, back)


def _is_road(bans, side, other, thing):
    """Whether anything is a road from a side to another one, as a tuple."""
    if not isinstance(thing, tuple):
        return False
    here = side
    for number in thing:
        if not is_whole(number) or not 0 <= number < len(bans):
            return False
        one, two = bans[number]
        if here not in (one, two):
            return False
        here = -two if here == one else -one
    return here == other
