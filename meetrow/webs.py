"""Webs: numbered spots and streets alone, the town that one is, and the web of a town."""

from meetrow.errors import NoWeb
from meetrow.plain import bans_of
from meetrow.sides import is_whole, side_of
from meetrow.ways import apart

MOST_SPOTS = 24


def town_of_web(many, streets):
    """The town of a web, or two spots that are apart, or three that have not just one spot between them."""
    if not _is_web(many, streets):
        raise NoWeb()
    far = _far(many, streets)
    for one in range(many):
        for other in range(one + 1, many):
            if other not in far[one]:
                return ("apart", one, other)
    return _three_unmet(far) or _town(far, streets)


def _is_web(many, streets):
    if not is_whole(many) or not 1 <= many <= MOST_SPOTS or not isinstance(streets, list):
        return False
    seen = set()
    for street in streets:
        if not _is_street(many, street):
            return False
        one, other = street
        if (one, other) in seen:
            return False
        seen.add((one, other))
        seen.add((other, one))
    return True


def _is_street(many, thing):
    if not isinstance(thing, tuple) or len(thing) != 2:
        return False
    one, other = thing
    return _is_number(many, one) and _is_number(many, other) and one != other


def _is_number(many, thing):
    return is_whole(thing) and 0 <= thing < many


def _far(many, streets):
    """For each spot how far each one is to which streets lead from it."""
    beside = [[] for _ in range(many)]
    for one, other in streets:
        beside[one].append(other)
        beside[other].append(one)
    return [_far_from(spot, beside) for spot in range(many)]


def _far_from(spot, beside):
    far = {spot: 0}
    queue = [spot]
    at = 0
    while at < len(queue):
        here = queue[at]
        at += 1
        for onward in beside[here]:
            if onward not in far:
                far[onward] = far[here] + 1
                queue.append(onward)
    return far


def _three_unmet(far):
    """The first three that have not just one spot between each two of them, beside those that they have, or None."""
    many = len(far)
    between = [[_between(far, here, there) for there in range(many)] for here in range(many)]
    for one in range(many):
        for two in range(one + 1, many):
            for three in range(two + 1, many):
                meets = between[one][two] & between[two][three] & between[one][three]
                # With its lowest bit taken away just one bit leaves nothing; no bit is no spot.
                if not meets or meets & (meets - 1):
                    return ("three", one, two, three, [spot for spot in range(many) if meets >> spot & 1])
    return None


def _between(far, one, other):
    """The spots on shortest ways between two, as a number with a bit for each."""
    spots = range(len(far))
    return sum([1 << spot for spot in spots if far[one][spot] + far[spot][other] == far[one][other]])


def _town(far, streets):
    """The town of a web where each three have just one spot between each two of them."""
    nearer = []
    for one, other in streets:
        # The spots nearer to this end have one side of the street's cut, all others the other one.
        near = [far[one][spot] < far[other][spot] for spot in range(len(far))]
        if near not in nearer and [not is_near for is_near in near] not in nearer:
            nearer.append(near)
    spots = [_spot(spot, nearer) for spot in range(len(far))]
    return ("town", len(nearer), bans_of(len(nearer), spots), spots)


def _spot(number, nearer):
    """The sides of a spot, by which of all are on the number's side of each cut."""
    return tuple([side_of(cut, near[number]) for cut, near in enumerate(nearer, start=1)])


def web_of(town):
    """How many spots a town has, and its streets as pairs of their numbers."""
    spots = town.spots_up_to(MOST_SPOTS)
    many = len(spots)
    numbers = range(many)
    return many, [(one, two) for one in numbers for two in range(one + 1, many) if apart(spots[one], spots[two]) == 1]
