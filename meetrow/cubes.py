"""Cubes: sets of cuts of whose sides all settings are spots, beside the same sides of all other cuts."""

from meetrow.ways import crossed

MOST_SPOTS = 24


def cubes(town):
    """How many cubes of 0, 1, 2 .. ways a town has, up to the most ways there are."""
    spots = town.spots_up_to(MOST_SPOTS)
    known = {spot: True for spot in spots}
    # Each cube as the list of its spots, the first one with the numbers' sides of its cuts, beside its last cut.
    found = [([spot], 0) for spot in spots]
    told = []
    while found:
        told.append(len(found))
        found = [wider for corners, last in found for wider in _widened(known, corners, last)]
    return told


def _widened(known, corners, last):
    """All cubes that have one more way, along a cut behind the last one, and the corners on its number's side."""
    first = corners[0]
    wider = []
    for cut in range(last + 1, len(first) + 1):
        across = [crossed(corner, cut) for corner in corners]
        if first[cut - 1] > 0 and all([spot in known for spot in across]):
            wider.append((corners + across, cut))
    return wider
