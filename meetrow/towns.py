"""Towns: the spots that plain bans let."""

from meetrow.bans import are_bans
from meetrow.errors import NoBans, NotPlain, TooMany
from meetrow.masks import bit, closure, mask_of, sides_in
from meetrow.plain import plain
from meetrow.sides import is_whole

MOST_SPOTS = 500


def _bans_told(many, bans):
    """The bans in plain form, refused where anything isn't plain bans of so many cuts."""
    if not are_bans(many, bans):
        raise NoBans()
    form = plain(many, bans)
    if form is None:
        raise NotPlain("nothing", 0)
    _, told, table = form
    for cut, entry in enumerate(table, start=1):
        if isinstance(entry, bool):
            raise NotPlain("onesided", cut)
    for cut, entry in enumerate(table, start=1):
        if entry != cut:
            raise NotPlain("alike", cut)
    return told


class Town:
    """A town of MANY cuts, by plain bans."""

    def __init__(self, many, bans):
        self._bans = _bans_told(many, bans)
        self._cuts = tuple(range(1, many + 1))
        self._leads = closure(many, self._bans)

    def __eq__(self, other):
        return isinstance(other, Town) and self._cuts == other._cuts and self._bans == other._bans

    def __len__(self):
        return len(self._cuts)

    def __str__(self):
        return "\n".join([f"town {len(self)}"] + [f"ban {one} {other}" for one, other in self._bans])

    def bans(self):
        """All bans that hold, in the plain form."""
        return list(self._bans)

    def is_spot(self, thing):
        """Whether anything is a spot of the town."""
        if not isinstance(thing, tuple) or len(thing) != len(self):
            return False
        for cut, side in zip(self._cuts, thing):
            if not is_whole(side) or abs(side) != cut:
                return False
        return self._following(thing) == mask_of(thing)

    def _following(self, sides):
        """The mask of all sides that follow from any of these."""
        mask = 0
        for side in sides:
            mask |= self._leads[side]
        return mask

    def follows(self, side):
        """The sides that all spots on this one are on, rising, itself too."""
        return self.all_following([side])

    def all_following(self, sides):
        """The sides that follow from any of these, rising."""
        return sides_in(self._following(sides))

    def is_barred(self, one, other):
        """Whether no spot has both sides."""
        return bool(self._leads[one] & bit(-other))

    def spots(self):
        """All spots, rising; refused with TooMany where they are more than 500."""
        return self.spots_up_to(MOST_SPOTS)

    def spots_up_to(self, most):
        """All spots, rising; refused with TooMany where they are more than so many."""
        found = [((), 0)]
        for cut in self._cuts:
            # Each beginning that breaks no ban goes on to a spot, so there never are more of them than spots.
            found = self._grown(found, cut)
            if len(found) > most:
                raise TooMany(most)
        return [spot for spot, _ in found]

    def _grown(self, found, cut):
        """Each beginning of a spot, beside the mask of what follows from it, with each side of the cut it lets."""
        return [
            (sides + (side,), mask | self._leads[side])
            for sides, mask in found
            for side in (cut, -cut)
            if not mask & bit(-side)
        ]

    def spot_on(self, sides):
        """Any spot that has all these sides, or None."""
        if self.clash(sides) is not None:
            return None
        mask = self._following(sides)
        spot = []
        for cut in self._cuts:
            side = -cut if mask & bit(-cut) else cut
            mask |= self._leads[side]
            spot.append(side)
        return tuple(spot)

    def clash(self, sides):
        """Any two of the sides that no spot has both, or None where a spot has all."""
        others = mask_of([-side for side in sides])
        for side in sides:
            struck = sides_in(self._leads[side] & others)
            if struck:
                return (side, -struck[0])
        return None
