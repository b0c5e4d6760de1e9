"""Courses: how each folk of a row or ring goes, told by masks of cuts, so all cuts of a folk are told at once.

The mask of a cut is the bit that a spot as a whole number has for it. A folk is free at a cut where it isn't held.
"""

from meetrow.masks import number_of

# All cuts: a mask of what stands nowhere, which holds nobody.
ANY_CUT = -1


def cut_bit(cut):
    """The mask of one cut alone."""
    return 1 << (cut - 1)


def threes(things, ring):
    """What each folk has: that of the one before, its own, that of the one behind."""
    # An end of a row is its own neighbour here: so the rule for all tells that it stays, and that it is held.
    first, last = (things[-1], things[0]) if ring else (things[0], things[-1])
    return list(zip([first, *things[:-1]], things, [*things[1:], last]))


def frees_of(stand, ring):
    """Of each folk the mask of the cuts at which it is free."""
    numbers = [number_of(spot) for spot in stand]
    return [(before ^ here) & (here ^ after) for before, here, after in threes(numbers, ring)]


def free_at(frees, place, ring):
    """The mask of the one that stands at a place, in a ring counted round and round."""
    if ring:
        return frees[int(place) % len(frees)]
    return frees[place] if 0 <= place < len(frees) else ANY_CUT


class Course:
    """How a folk goes: by its spot, and by how many folk away the nearest is that is held at each cut."""

    def __init__(self, spot, waits, loose):
        self.spot = spot
        # For 0, 1, 2 .. folk away the mask of the cuts at which the nearest is so far; none is empty at the end.
        self.waits = waits
        # The mask of the cuts at which none is held.
        self.loose = loose

    def away(self, cut):
        """How many folk away the nearest is that is held at the cut, or None where none is."""
        for step, mask in enumerate(self.waits):
            if mask & cut_bit(cut):
                return step
        return None

    def last_turn(self):
        """The first beat from which on nothing changes but the cuts that go to and fro."""
        return max(len(self.waits) - 1, 0)

    def turned(self, beats):
        """The mask of the cuts of which the folk has its other side behind so many beats."""
        found = self.loose if beats & 1 else 0
        for step, mask in enumerate(self.waits):
            if min(step, beats) & 1:
                found |= mask
        return found

    def number_behind(self, beats):
        """The spot, as a number, behind so many beats."""
        return number_of(self.spot) ^ self.turned(beats)

    def spot_behind(self, beats):
        """The spot behind so many beats."""
        turned = self.turned(beats)
        return tuple([-side if turned >> at & 1 else side for at, side in enumerate(self.spot)])


def course_of(stand, frees, folk, ring):
    """The course of a folk."""
    waits = []
    loose = (1 << len(stand[folk])) - 1
    # No one in a ring is farther away than half of it, and no one in a row farther from the next end.
    for step in range(len(stand) // 2 + 1):
        free = free_at(frees, folk - step, ring) & free_at(frees, folk + step, ring)
        waits.append(loose & ~free)
        loose &= free
        if not loose:
            break
    while waits and not waits[-1]:
        waits.pop()
    return Course(stand[folk], waits, loose)


def courses_of(stand, ring):
    """The courses of all folk."""
    frees = frees_of(stand, ring)
    return [course_of(stand, frees, folk, ring) for folk in range(len(stand))]
