"""Mends: stands at rest that are reached from a told one by the least sum of ways."""

from meetrow.lines import in_walk, spots_for, spots_in, walk_of
from meetrow.ways import apart

# More than any sum of ways: what leads to no end.
FAR = 10 ** 9


def mend(town, stand, *, ring=False):
    """The least sum of ways by which the stand is carried to one at rest, and any such one."""
    spots = spots_for(town, ring)
    walk = walk_of(spots, [None] * len(stand), ring)
    costs = [[apart(spot, here) for spot in spots] for here in in_walk(stand, ring)]
    if ring:
        total, line = _least_round(walk, costs, len(spots))
    else:
        ends = [one * len(spots) + one for one in range(len(spots))]
        total, line = _least(walk, costs, len(spots), ends)
    return total, spots_in(spots, line, ring)


def _least_round(walk, costs, many):
    """The least sum of a ring's line, and one with it."""
    starts = list(range(many * many))
    # No line from a start has less than one that may end anywhere.
    bounds = _sums(walk, costs, many, starts)[0]
    best = (FAR, [])
    for start in sorted(starts, key=lambda pair: bounds[pair]):
        if bounds[start] >= best[0]:
            break
        total, line = _least(walk, costs, many, [start])
        if total < best[0]:
            best = (total, line)
    return best


def _least(walk, costs, many, ends):
    """The least sum of a line that starts by one of the ends and ends by one, and such a line."""
    tails = _sums(walk, costs, many, ends)
    total, pair = min([(tails[0][end], end) for end in ends])
    line = [pair // many, int(pair) % many]
    for onward, tail in zip(walk, tails[1:]):
        _, pair = min([(tail[behind], behind) for behind in onward[pair]])
        line.append(int(pair) % many)
    return total, line


def _sums(walk, costs, many, ends):
    """From each folk on, by the last pair, the least sum by which a line comes to the ends; those of the ends last."""
    tails = [[FAR] * (many * many)]
    for end in ends:
        tails[0][end] = 0
    for onward, cost in zip(walk[::-1], costs[::-1]):
        tail = tails[-1]
        sums = [min([tail[behind] for behind in nexts], default=FAR) for nexts in onward]
        tails.append([cost[int(pair) % many] + least for pair, least in enumerate(sums)])
    return tails[::-1]
