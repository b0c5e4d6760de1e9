"""Befores: the stands that a beat leads to a told one."""

from meetrow.lines import Lines, spots_for


def befores(town, stand, *, ring=False):
    """How many stands a beat leads to this one."""
    return _leading(town, stand, ring).how_many()


def before_at(town, stand, number, *, ring=False):
    """The stand with a number, from 0, of all that a beat leads to this one, rising."""
    return _leading(town, stand, ring).line(number)


def _leading(town, stand, ring):
    """The lines of which each three meet where the stand's folk are."""
    spots = spots_for(town, ring)
    return Lines(spots, [spots.index(spot) for spot in stand], ring)
