"""Maps: tables that lead the spots of one town to those of another one."""

from itertools import combinations

from meetrow.masks import majority, number_of
from meetrow.sides import all_sides, side_of

MOST_SPOTS = 24


def led_by(table, spot):
    """The setting to which a table leads a spot."""
    return tuple([side_of(cut, _is_on(spot, entry)) for cut, entry in enumerate(table, start=1)])


def _is_on(spot, entry):
    """Whether a spot is on an entry: on its side; all are on True, none on False."""
    return entry if isinstance(entry, bool) else spot[abs(entry) - 1] == entry


def is_map(town, goal, table):
    """Whether the table leads all spots of the town to spots of the goal."""
    for one, other in goal.bans():
        if _some_on_both(town, _entry(table, one), _entry(table, other)):
            return False
    return True


def _entry(table, side):
    """What spots are on just where the table leads them to a side."""
    entry = table[abs(side) - 1]
    if side > 0:
        return entry
    return not entry if isinstance(entry, bool) else -entry


def _some_on_both(town, entry, other):
    """Whether some spot is on two entries."""
    if entry is False or other is False:
        return False
    # Each side alone has a spot, so what is on all spots asks nothing.
    return entry is True or other is True or not town.is_barred(entry, other)


def map_of(town, goal, spots):
    """The table that leads the town's spots, rising, to these, or the first three whose meeting is not kept."""
    three = _first_unkept(town.spots_up_to(MOST_SPOTS), spots)
    if three is not None:
        return ("three", *three)
    entries = _entries(town)
    return ("map", tuple([entries[_marks(spots, cut)] for cut in range(1, len(goal) + 1)]))


def _first_unkept(firsts, spots):
    """The first three numbers of spots such that what is told for where they meet isn't where the told ones meet."""
    numbers = [number_of(spot) for spot in firsts]
    told = [number_of(spot) for spot in spots]
    led = {number: goal for number, goal in zip(numbers, told)}
    for one, two, three in combinations(range(len(numbers)), 3):
        there = led[majority(numbers[one], numbers[two], numbers[three])]
        if there != majority(told[one], told[two], told[three]):
            return (one, two, three)
    return None


def _entries(town):
    """Each entry by the marks of the spots that are on it."""
    spots = town.spots_up_to(MOST_SPOTS)
    entries = {_marks(spots, side): side for side in all_sides(len(town))}
    for entry in (True, False):
        entries[tuple([entry] * len(spots))] = entry
    return entries


def _marks(spots, side):
    """Of each spot whether it is on a side."""
    return tuple([spot[abs(side) - 1] == side for spot in spots])
