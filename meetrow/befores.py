"""Befores: the stands that a beat leads to a told one."""

from meetrow.lines import line_at, many_lines, spots_for


def befores(town, stand, *, ring=False):
    """How many stands a beat leads to this one."""
    spots = spots_for(town, ring)
    return many_lines(spots, _goals(spots, stand), ring)


def before_at(town, stand, number, *, ring=False):
    """The stand with a number, from 0, of all that a beat leads to this one, rising."""
    spots = spots_for(town, ring)
    return line_at(spots, _goals(spots, stand), number, ring)


def _goals(spots, stand):
    """The spots of the stand by their numbers: there are the three to meet amid whom a folk stands."""
    return [spots.index(spot) for spot in stand]
