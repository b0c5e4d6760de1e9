"""Courses: how each folk of a row or ring goes, told by masks of cuts, so all cuts of a folk are told at once.

The mask of a cut is the bit that a spot as a whole number has for it. A folk is free at a cut where it isn't held.
"""

from meetrow.masks import number_of


def cut_bit(cut):
    """The mask of one cut alone."""
    return 1 << (cut - 1)


def threes(things, ring):
    """What each folk has: that of the one before, its own, that of the one behind."""
    # An end of a row is its own neighbour here: so the rule for all tells that it stays, and that it is held.
    first, last = (things[-1], things[0]) if ring else (things[0], things[-1])
    return list(zip([first, *things[:-1]], things, [*things[1:], last]))


class Course:
    """How a folk goes: by its spot, and by how many folk away the nearest is that is held at each cut."""

    def __init__(self, spot, number, waits, loose):
        self.spot = spot
        self._number = number
        # For 0, 1, 2 .. folk away the mask of the cuts at which the nearest is so far; the last one is not empty.
        self.waits = waits
        # The mask of the cuts at which none is held.
        self.loose = loose

    def away(self, cut):
        """How many folk away the nearest is that is held at the cut, or None where none is."""
        for step, mask in enumerate(self.waits):
            if mask & cut_bit(cut):
                return step
        return None

    def last_turn(self):
        """The first beat from which on nothing changes but the cuts that go to and fro."""
        return max(len(self.waits) - 1, 0)

    def _turned(self, beats):
        """The mask of the cuts of which the folk has its other side behind so many beats."""
        found = self.loose if beats & 1 else 0
        for step, mask in enumerate(self.waits):
            if min(step, beats) & 1:
                found |= mask
        return found

    def number_behind(self, beats):
        """The spot, as a number, behind so many beats."""
        return self._number ^ self._turned(beats)

    def spot_behind(self, beats):
        """The spot behind so many beats."""
        turned = self._turned(beats)
        if not turned:
            return self.spot
        return tuple([-side if turned >> at & 1 else side for at, side in enumerate(self.spot)])


class Chain:
    """Folk hand in hand: a stand as a row or ring, and at which cuts each is free."""

    def __init__(self, stand, ring):
        self._stand = stand
        self._numbers = [number_of(spot) for spot in stand]
        self._frees = [(before ^ here) & (here ^ after) for before, here, after in threes(self._numbers, ring)]

    def _free_at(self, place):
        """The mask of the one that stands at a place, counted round and round."""
        # In a row an end is held at each cut, so one never asks for what would stand beyond it.
        return self._frees[int(place) % len(self._frees)]

    def is_held(self, place, cut):
        """Whether the one at a place is held at the cut."""
        return not self._free_at(place) & cut_bit(cut)

    def course(self, folk):
        """The course of a folk."""
        waits = []
        loose = (1 << len(self._stand[folk])) - 1
        # No one in a ring is farther away than half of it, and no one in a row farther from the next end.
        for step in range(len(self._stand) // 2 + 1):
            free = self._free_at(folk - step) & self._free_at(folk + step)
            waits.append(loose & ~free)
            loose &= free
            if not loose:
                break
        while waits and not waits[-1]:
            waits.pop()
        return Course(self._stand[folk], self._numbers[folk], waits, loose)


def course_of(stand, folk, ring):
    """The course of one folk."""
    return Chain(stand, ring).course(folk)


def courses_of(stand, ring):
    """The courses of all folk."""
    chain = Chain(stand, ring)
    return [chain.course(folk) for folk in range(len(stand))]
