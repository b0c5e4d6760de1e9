"""Towns: the spots that plain bans let."""

from meetrow.bans import are_bans
from meetrow.errors import NoBans, NotPlain, TooMany
from meetrow.masks import bits_of, closure, sides_in
from meetrow.plain import bans_led, table_of
from meetrow.sides import all_sides, is_whole

MOST_SPOTS = 500


def _plain_leads(many, bans):
    """What each side leads to by bans, refused where anything isn't plain bans of so many cuts."""
    if not are_bans(many, bans):
        raise NoBans()
    leads = closure(many, bans)
    told = table_of(many, leads)
    if told is None:
        raise NotPlain("nothing", 0)
    _, table = told
    for cut, entry in enumerate(table, start=1):
        if isinstance(entry, bool):
            raise NotPlain("onesided", cut)
    for cut, entry in enumerate(table, start=1):
        if entry != cut:
            raise NotPlain("alike", cut)
    return leads


class Town:
    """A town of MANY cuts, by plain bans."""

    def __init__(self, many, bans):
        # By plain bans this tells all else: what is banned, and what follows.
        self._leads = _plain_leads(many, bans)
        self._cuts = tuple(range(1, many + 1))
        self._sides = all_sides(many)
        self._bits = bits_of(many)

    def __eq__(self, other):
        return isinstance(other, Town) and self._leads == other._leads

    def __len__(self):
        return len(self._cuts)

    def __str__(self):
        return "\n".join([f"town {len(self)}"] + [f"ban {one} {other}" for one, other in self.bans()])

    def bans(self):
        """All bans that hold, in the plain form."""
        return bans_led(len(self), self._leads, self._cuts)

    def is_spot(self, thing):
        """Whether anything is a spot of the town."""
        if not isinstance(thing, tuple) or len(thing) != len(self):
            return False
        for cut, side in zip(self._cuts, thing):
            if not is_whole(side) or abs(side) != cut:
                return False
        return self._following(thing) == self._mask(thing)

    def _mask(self, sides):
        """The mask of all these sides."""
        mask = 0
        for side in sides:
            mask |= self._bits[side]
        return mask

    def _following(self, sides):
        """The mask of all sides that follow from any of these."""
        mask = 0
        for side in sides:
            mask |= self._leads[side]
        return mask

    def follows(self, side):
        """The sides that all spots on this one are on, rising, itself too."""
        return sides_in(self._sides, self._leads[side])

    def all_following(self, sides):
        """The sides that follow from any of these, rising."""
        return sides_in(self._sides, self._following(sides))

    def is_barred(self, one, other):
        """Whether no spot has both sides."""
        return bool(self._leads[one] & self._bits[-other])

    def cuts_at(self, spot):
        """The cuts of which the spot's other side goes with all its sides of the others, rising."""
        others = self._mask([-side for side in spot])
        # Nothing follows from it that the spot hasn't, but itself.
        return [abs(side) for side in spot if self._leads[-side] & others == self._bits[-side]]

    def spots(self):
        """All spots, rising; refused with TooMany where they are more than 500."""
        return self.spots_up_to(MOST_SPOTS)

    def spots_up_to(self, most):
        """All spots, rising; refused with TooMany where they are more than so many."""
        found = [0]
        for cut in self._cuts:
            # Each beginning that breaks no ban goes on to a spot, so there never are more of them than spots.
            found = self._grown(found, cut)
            if len(found) > most:
                raise TooMany(most)
        return [tuple(sides_in(self._sides, mask)) for mask in found]

    def _grown(self, found, cut):
        """The masks of what follows from beginnings of spots, each with each side of the cut that it lets."""
        choices = [(self._leads[side], self._bits[-side]) for side in (cut, -cut)]
        return [mask | onward for mask in found for onward, strike in choices if not mask & strike]

    def spot_on(self, sides):
        """Any spot that has all these sides, or None."""
        if self.clash(sides) is not None:
            return None
        mask = self._following(sides)
        for cut in self._cuts:
            mask |= self._leads[-cut if mask & self._bits[-cut] else cut]
        return tuple(sides_in(self._sides, mask))

    def clash(self, sides):
        """Any two of the sides that no spot has both, or None where a spot has all."""
        others = self._mask([-side for side in sides])
        for side in sides:
            struck = self._leads[side] & others
            if struck:
                return (side, -self._sides[struck.bit_length() - 1])
        return None
