"""Rests: the stands that a beat leaves as they are."""

from meetrow.beats import beat
from meetrow.lines import Lines, spots_for


def is_at_rest(stand, *, ring=False):
    """Whether a beat leaves the stand as it is."""
    return beat(stand, ring=ring) == stand


def rests(town, folk, *, ring=False):
    """How many stands of so many folk are at rest."""
    return _resting(town, folk, ring).how_many()


def rest_at(town, folk, number, *, ring=False):
    """The stand at rest with a number, from 0, of all of so many folk, rising."""
    return _resting(town, folk, ring).line(number)


def _resting(town, folk, ring):
    return Lines(spots_for(town, ring), [None] * folk, ring)
