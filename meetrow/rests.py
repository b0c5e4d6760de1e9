"""Rests: the stands that a beat leaves as they are."""

from meetrow.beats import beat
from meetrow.lines import line_at, many_lines, spots_for


def is_at_rest(stand, *, ring=False):
    """Whether a beat leaves the stand as it is."""
    return beat(stand, ring=ring) == stand


def rests(town, folk, *, ring=False):
    """How many stands of so many folk are at rest."""
    return many_lines(spots_for(town, ring), [None] * folk, ring)


def rest_at(town, folk, number, *, ring=False):
    """The stand at rest with a number, from 0, of all of so many folk, rising."""
    return line_at(spots_for(town, ring), [None] * folk, number, ring)
