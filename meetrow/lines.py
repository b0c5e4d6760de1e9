"""Lines: rows and rings by where each three side by side are to meet; counted without listing, and told by numbers.

Spots are taken by their numbers in the list of a town's spots, two of them side by side as one number, a pair: the
first one's times how many spots there are, and the second one's. A row is walked with its ends twice (each is its own
neighbour), a ring until its first two come again: so each folk stands once amid three, and whether a line goes on hangs
on its last pair alone. A goal is the spot where the three amid whom a folk stands are to meet, None for its own.
"""

from meetrow.errors import NoNumber
from meetrow.masks import majority, number_of

MOST_FOR_ROWS = 16
MOST_FOR_RINGS = 8


def spots_for(town, ring):
    """All spots of a town, rising; refused with TooMany where they are too many for rows, or for rings."""
    return town.spots_up_to(MOST_FOR_RINGS if ring else MOST_FOR_ROWS)


def in_walk(things, ring):
    """What each folk has, in the order in which they stand amid three."""
    return things[1:] + things[:1] if ring else things


def walk_of(spots, goals, ring):
    """Of each folk, as they stand amid three, by each last pair all pairs that may be next, rising."""
    steps = _steps(spots)
    onward = {}
    for goal in goals:
        if goal not in onward:
            onward[goal] = _onward(steps, len(spots), goal)
    return [onward[goal] for goal in in_walk(goals, ring)]


def _steps(spots):
    """By a pair and where its two meet with a third spot, all pairs of the second and third one, rising."""
    numbers = [number_of(spot) for spot in spots]
    places = {number: place for place, number in enumerate(numbers)}
    many = len(spots)
    steps = {}
    for one, first in enumerate(numbers):
        for two, second in enumerate(numbers):
            for three, third in enumerate(numbers):
                key = (one * many + two, places[majority(first, second, third)])
                steps.setdefault(key, []).append(two * many + three)
    return steps


def _onward(steps, many, goal):
    """By each pair, of so many spots, all pairs that may be next, by the goal of its second spot."""
    pairs = range(many * many)
    return [steps.get((pair, int(pair) % many if goal is None else goal), []) for pair in pairs]


def spots_in(spots, line, ring):
    """The spots of the folk of a line, a list of the numbers of all spots where it is walked."""
    return [spots[here] for here in (line[:-2] if ring else line[1:-1])]


class Lines:
    """All lines of a folk for each goal."""

    def __init__(self, spots, goals, ring):
        self._spots = spots
        self._ring = ring
        self._walk = walk_of(spots, goals, ring)
        # Lines are counted by the pairs where they end, all at once: each such count has so many bits of one number.
        self._width = len(spots).bit_length() * len(goals)
        self._starts = self._starting(len(spots))
        self._tails = self._counted(len(spots))

    def _starting(self, many):
        """The pairs by which lines start, rising."""
        return list(range(many * many)) if self._ring else [one * many + one for one in range(many)]

    def _counted(self, many):
        """From each folk on, by the last pair, how many ways lead on to the ends; those of the ends come last."""
        ends = [0] * (many * many)
        for pair in self._starts:
            # A row may end by any spot twice, a ring by its own start alone.
            ends[pair] = 1 << self._shift(pair)
        tails = [ends]
        for onward in self._walk[::-1]:
            tail = tails[-1]
            tails.append([sum([tail[pair] for pair in nexts]) for nexts in onward])
        return tails[::-1]

    def _shift(self, start):
        return self._width * start if self._ring else 0

    def _ways(self, tail, start, pair):
        """How many ways lead from a pair on to the ends of the lines with a start."""
        return (tail[pair] >> self._shift(start)) & ((1 << self._width) - 1)

    def how_many(self):
        """How many lines there are."""
        return sum([self._ways(self._tails[0], start, start) for start in self._starts])

    def line(self, number):
        """The line with a number, from 0, of all of them, rising; refused with NoNumber where there is none."""
        many = self.how_many()
        if not 0 <= number < many:
            raise NoNumber(many)
        for start in self._starts:
            ways = self._ways(self._tails[0], start, start)
            if number < ways:
                break
            number -= ways
        return spots_in(self._spots, self._walked(start, number), self._ring)

    def _walked(self, start, number):
        """The line with a number, from 0, of those with a start."""
        spots = len(self._spots)
        line = [start // spots, int(start) % spots]
        pair = start
        for onward, tail in zip(self._walk, self._tails[1:]):
            for behind in onward[pair]:
                ways = self._ways(tail, start, behind)
                if number < ways:
                    break
                number -= ways
            pair = behind
            line.append(int(pair) % spots)
        return line
