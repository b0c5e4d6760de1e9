"""Crowds: sums of ways to weighted spots, and the fair spots."""

from meetrow.quarters import quarter
from meetrow.ways import apart


def crowd_sum(crowd, spot):
    """The sum of all weights times how far from the spot theirs are."""
    return sum([weight * apart(spot, theirs) for theirs, weight in crowd])


def fair(town, crowd, *, within=()):
    """The sides of the quarter of the spots with the least sum of those in a quarter; refused where it has none."""
    told = quarter(town, within)
    bound = {abs(side): True for side in told}
    free = [cut for cut in range(1, len(town) + 1) if cut not in bound]
    return quarter(town, told + [side for cut in free for side in _heavier(crowd, cut)])


def _heavier(crowd, cut):
    """The side of the cut with the more weight, alone in a list; none where both are even."""
    balance = sum([weight if spot[cut - 1] > 0 else -weight for spot, weight in crowd])
    if balance == 0:
        return []
    return [cut if balance > 0 else -cut]
