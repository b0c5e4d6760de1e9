"""Lines: rows and rings by where each three side by side are to meet; counted without listing, and told by numbers.

Spots are taken by their numbers in the list of a town's spots. A row is walked with its ends twice (each is its own
neighbour), a ring until its first two come again: so each folk stands once amid three, and whether a line goes on hangs
on its last two spots alone. A goal is the spot where the three amid whom a folk stands are to meet, None for its own.
"""

from meetrow.errors import NoNumber
from meetrow.ways import meet

MOST_FOR_ROWS = 16
MOST_FOR_RINGS = 8


def spots_for(town, ring):
    """All spots of a town, rising; refused with TooMany where they are too many for rows, or for rings."""
    return town.spots_up_to(MOST_FOR_RINGS if ring else MOST_FOR_ROWS)


def many_lines(spots, goals, ring):
    """How many lines there are of a folk for each goal."""
    return _many(_begun(_steps(spots), len(spots), _walked(goals, ring), ring))


def line_at(spots, goals, number, ring):
    """The line with a number, from 0, of all of them, rising; refused with NoNumber where there is none."""
    steps = _steps(spots)
    walked = _walked(goals, ring)
    begun = _begun(steps, len(spots), walked, ring)
    many = _many(begun)
    if not 0 <= number < many:
        raise NoNumber(many)
    for start, tails in begun:
        if number < _ways_on(tails[0], start):
            break
        number -= _ways_on(tails[0], start)
    line = _line(steps, walked, start, tails, number)
    return [spots[here] for here in (line[:-2] if ring else line[1:-1])]


def _steps(spots):
    """By two spots side by side and where they meet with a third one, all third ones, rising."""
    numbers = {spot: number for number, spot in enumerate(spots)}
    steps = {}
    for one, first in enumerate(spots):
        for two, second in enumerate(spots):
            for three, third in enumerate(spots):
                key = (one, two, numbers[meet(first, second, third)])
                steps.setdefault(key, []).append(three)
    return steps


def _onward(steps, one, two, goal):
    """All third ones behind two, by the goal of the second."""
    return steps.get((one, two, two if goal is None else goal), [])


def _walked(goals, ring):
    """The goals in the order in which their folk stand amid three."""
    return goals[1:] + goals[:1] if ring else goals


def _begun(steps, many, goals, ring):
    """The first two places of each line, rising, beside the tails to where lines from there end."""
    numbers = range(many)
    if ring:
        pairs = [(one, two) for one in numbers for two in numbers]
        return [(pair, _tails(steps, goals, {pair: 1})) for pair in pairs]
    ends = [(one, one) for one in numbers]
    tails = _tails(steps, goals, {pair: 1 for pair in ends})
    return [(pair, tails) for pair in ends]


def _tails(steps, goals, ends):
    """From each goal on, by the two last spots, how many ways lead on to the ends; the ends themselves at the end."""
    tails = [ends]
    for goal in goals[::-1]:
        tails.append(_tail_ahead(steps, goal, tails[-1]))
    return tails[::-1]


def _tail_ahead(steps, goal, tail):
    """The tail from a goal on, by the tail behind it."""
    ahead = {}
    for (two, three), many in tail.items():
        # Where three meet hangs on no order, so the first ones are found as the third ones are.
        for one in _onward(steps, three, two, goal):
            ahead[(one, two)] = many + _ways_on(ahead, (one, two))
    return ahead


def _ways_on(tail, pair):
    return tail.get(pair, 0)


def _many(begun):
    return sum([_ways_on(tails[0], start) for start, tails in begun])


def _line(steps, goals, start, tails, number):
    """The line with a number, from 0, of those from a start."""
    line = list(start)
    for goal, tail in zip(goals, tails[1:]):
        one, two = line[-2:]
        for three in _onward(steps, one, two, goal):
            many = _ways_on(tail, (two, three))
            if number < many:
                line.append(three)
                break
            number -= many
    return line
