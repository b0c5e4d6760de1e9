"""Books of deeds: a town as it is seen from one of its spots."""

from meetrow.sides import is_whole
from meetrow.towns import Town


def book_of(town, spot):
    """The book of a town seen from a spot."""
    causes = []
    clashes = []
    own = {side: True for side in spot}
    for deed, side in enumerate(spot, start=1):
        # Where a deed is done, another one is done, too, on a side that the spot hasn't; on the spot's own it is not.
        follow = town.follows(-side)
        causes.append(tuple([abs(other) for other in follow if other not in own and other != -side]))
        clashes.extend([(deed, abs(other)) for other in follow if other in own and abs(other) > deed])
    return tuple(causes), tuple(clashes)


def is_book(many, thing):
    """Whether anything is a book of so many deeds."""
    if not isinstance(thing, tuple) or len(thing) != 2:
        return False
    causes, clashes = thing
    if not isinstance(causes, tuple) or len(causes) != many or not isinstance(clashes, tuple):
        return False
    if not all([_are_deeds(many, told) for told in causes + clashes]):
        return False
    if not all([len(clash) == 2 for clash in clashes]) or not _are_rising(clashes):
        return False
    return _is_whole_book(causes, clashes)


def _are_deeds(many, thing):
    """Whether anything is a rising tuple of unlike deeds."""
    if not isinstance(thing, tuple):
        return False
    return all([is_whole(deed) and 1 <= deed <= many for deed in thing]) and _are_rising(thing)


def _are_rising(things):
    return all([one < other for one, other in zip(things, things[1:])])


def _is_whole_book(causes, clashes):
    """Whether all causes of causes are told and all clashes by causes, and none that would never be done."""
    # Sets of deeds as numbers, with a bit for each.
    above = {deed: sum([1 << cause for cause in told]) for deed, told in enumerate(causes, start=1)}
    against = {deed: 0 for deed in above}
    for one, other in clashes:
        against[one] |= 1 << other
        against[other] |= 1 << one
    for deed, told in enumerate(causes, start=1):
        if deed in told or above[deed] & against[deed]:
            return False
        for cause in told:
            if not _is_within(above[cause], above[deed]) or not _is_within(against[cause], against[deed]):
                return False
    return True


def _is_within(deeds, others):
    return deeds | others == others


def town_of_book(book):
    """The town whose spots are the sets of deeds that have all their causes and no two that clash."""
    causes, clashes = book
    bans = [(-deed, cause) for deed, told in enumerate(causes, start=1) for cause in told]
    return Town(len(causes), bans + [(-one, -other) for one, other in clashes])
