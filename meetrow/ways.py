"""Ways: how far apart spots are, where three ways meet, streets, and shortest ways."""


def apart(one, other):
    """How many unlike sides two spots have."""
    return len([1 for side, beside in zip(one, other) if side != beside])


def is_between(one, middle, other):
    """Whether the middle spot lies between the two others."""
    return apart(one, middle) + apart(middle, other) == apart(one, other)


def meet(one, two, three):
    """The spot that has, of each cut, the side of two or three of the spots."""
    return tuple([a if a in (b, c) else b for a, b, c in zip(one, two, three)])


def crossed(spot, cut):
    """The spot's sides, but of the cut its other side."""
    return spot[: cut - 1] + (-spot[cut - 1],) + spot[cut:]


def streets_at(town, spot):
    """The cuts of the streets at a spot, rising."""
    return town.cuts_at(spot)


def way(town, one, other):
    """A shortest way from a spot to another one, a list of spots, both with it."""
    unlike = [side for side, beside in zip(other, one) if side != beside]
    spots = [one]
    # A side comes behind all that follow from it: fewer follow from each of these than from the side itself.
    for onward in sorted(unlike, key=lambda side: len(town.follows(side))):
        spots.append(crossed(spots[-1], abs(onward)))
    return spots
