"""A hall told slowly, beat by beat, straight from the words of the document."""

import copy

from meetrow import errors
from tests import brute


class SlowHall:
    """Rows and rings as lists of folk, each folk with all the spots where it stood, moment by moment."""

    KEPT = ("many", "spots", "elders", "deeds")

    def __init__(self, many, spots):
        self.many, self.spots = many, set(spots)
        self.elders, self.deeds = [], []
        self.moment, self.next = 0, 0
        self.bands, self.rings = {}, {}
        # For each folk its moment of coming and where it stood at that one, the next one, and so on.
        self.came, self.course = {}, {}
        # For each bell its folk, its sides, and how often it rang.
        self.chimes = {}

    def is_spot(self, thing):
        if not isinstance(thing, tuple) or any(isinstance(part, (bool, list)) for part in thing):
            return False
        return thing in self.spots

    def is_folk(self, thing):
        return isinstance(thing, int) and not isinstance(thing, bool) and thing in self.came

    def here(self, folk):
        return self.course[folk][-1]

    def word_of(self, folk):
        return next(word for word, band in self.bands.items() if folk in band)

    def refuse_unless(self, holds, error, *fields):
        if not holds:
            raise getattr(errors, error)(*fields)

    def refuse_no_folk(self, folk):
        self.refuse_unless(self.is_folk(folk), "NoFolk", folk)

    def do(self, name, *handed):
        """Does a deed, or raises as it is to be refused."""
        if name == "back":
            self.refuse_unless(self.deeds, "NoDeed")
            vars(self).update(self.elders.pop())
            return
        kept = copy.deepcopy({part: worth for part, worth in vars(self).items() if part not in self.KEPT})
        kept["deeds"] = list(self.deeds)
        getattr(self, "do_" + name)(*handed)
        self.elders.append(kept)
        self.deeds.append((name,) + tuple(tuple(part) if isinstance(part, list) else part for part in handed))

    def do_row(self, word, stand, ring=False):
        self.refuse_unless(word not in self.bands, "IsThere", word)
        self.refuse_unless(not ring or len(stand) > 2, "TooFew")
        for number, spot in enumerate(stand):
            self.refuse_unless(self.is_spot(spot), "NoSpot", number)
        self.refuse_unless(len(self.came) + len(stand) <= 60, "TooMany", 60)
        self.bands[word] = list(range(self.next, self.next + len(stand)))
        self.rings[word] = ring
        for folk, spot in zip(self.bands[word], stand):
            self.came[folk], self.course[folk] = self.moment, [spot]
        self.next += len(stand)

    def do_ring(self, word, stand):
        self.do_row(word, stand, True)

    def do_go(self, beats):
        for _ in range(beats):
            self.moment += 1
            for word, band in self.bands.items():
                stand = brute.beat([self.here(folk) for folk in band], self.rings[word])
                for folk, spot in zip(band, stand):
                    self.ring_bells(folk, self.here(folk), spot)
                    self.course[folk].append(spot)

    def ring_bells(self, folk, here, there):
        for chime in self.chimes.values():
            if chime[0] == folk and self.inside(there, chime[1]) and not self.inside(here, chime[1]):
                chime[2] += 1

    def inside(self, spot, sides):
        return all(side in spot for side in sides)

    def do_carry(self, folk, spot):
        self.refuse_no_folk(folk)
        self.refuse_unless(self.is_spot(spot), "NoSpot", 0)
        self.ring_bells(folk, self.here(folk), spot)
        self.course[folk][-1] = spot

    def do_part(self, folk, word):
        self.refuse_no_folk(folk)
        elder = self.word_of(folk)
        self.refuse_unless(not self.rings[elder], "NotRow", elder)
        band = self.bands[elder]
        self.refuse_unless(band[-1] != folk, "NoHands", folk)
        self.refuse_unless(word not in self.bands, "IsThere", word)
        at = band.index(folk) + 1
        self.bands[elder], self.bands[word] = band[:at], band[at:]
        self.rings[word] = False

    def do_unclose(self, folk):
        self.refuse_no_folk(folk)
        word = self.word_of(folk)
        self.refuse_unless(self.rings[word], "NotRing", word)
        while self.bands[word][-1] != folk:
            self.bands[word].append(self.bands[word].pop(0))
        self.rings[word] = False

    def do_hook(self, word, other):
        for one in (word, other):
            self.refuse_unless(one in self.bands, "NotThere", one)
        for one in (word, other):
            self.refuse_unless(not self.rings[one], "NotRow", one)
        self.refuse_unless(word != other, "NoHands", self.bands[word][0])
        self.bands[word].extend(self.bands.pop(other))
        del self.rings[other]

    def do_close(self, word):
        self.refuse_unless(word in self.bands, "NotThere", word)
        self.refuse_unless(not self.rings[word], "NotRow", word)
        self.refuse_unless(len(self.bands[word]) > 2, "TooFew")
        self.rings[word] = True

    def do_drop(self, word):
        self.refuse_unless(word in self.bands, "NotThere", word)
        for folk in self.bands.pop(word):
            del self.came[folk], self.course[folk]
            self.chimes = {bell: chime for bell, chime in self.chimes.items() if chime[0] != folk}
        del self.rings[word]

    def do_bell(self, word, folk, sides):
        self.refuse_unless(word not in self.chimes, "IsThere", word)
        self.refuse_no_folk(folk)
        has_spot = any(self.inside(spot, sides) for spot in self.spots) if self.are_sides(sides) else False
        self.refuse_unless(has_spot, "NoQuarter", 0)
        self.chimes[word] = [folk, list(sides), 0]

    def are_sides(self, thing):
        whole = [isinstance(side, int) and not isinstance(side, bool) for side in thing] if isinstance(thing, list) else [0]
        return all(whole) and all(1 <= abs(side) <= self.many for side in thing)

    def do_unbell(self, word):
        self.refuse_unless(word in self.chimes, "NotThere", word)
        del self.chimes[word]

    def on(self, beats):
        """This hall so many beats on, if nothing is done."""
        other = SlowHall(self.many, self.spots)
        vars(other).update(copy.deepcopy({part: worth for part, worth in vars(self).items() if part not in self.KEPT}))
        other.do_go(beats)
        return other

    def words(self):
        return list(self.bands)

    def stand(self, word):
        self.refuse_unless(word in self.bands, "NotThere", word)
        return [self.here(folk) for folk in self.bands[word]]

    def was(self, folk, moment):
        self.refuse_no_folk(folk)
        whole = isinstance(moment, int) and not isinstance(moment, bool)
        self.refuse_unless(whole and self.came[folk] <= moment <= self.moment, "NoMoment", moment)
        return self.course[folk][moment - self.came[folk]]

    def first(self, beats, holds):
        """The first of so many beats from now behind which it holds, or None."""
        hall = self.on(0)
        for gone in range(beats):
            if holds(hall):
                return gone
            hall.do_go(1)
        return None

    def first_at(self, folk, spot):
        self.refuse_no_folk(folk)
        self.refuse_unless(self.is_spot(spot), "NoSpot", 0)
        return self.first(len(self.bands[self.word_of(folk)]) + 2, lambda hall: hall.here(folk) == spot)

    def first_meet(self, one, other):
        self.refuse_no_folk(one)
        self.refuse_no_folk(other)
        most = max(len(self.bands[self.word_of(folk)]) for folk in (one, other))
        return self.first(most + 2, lambda hall: hall.here(one) == hall.here(other))

    def rest(self, word):
        """Slowly: which cuts turn at some folk from one beat on to the next, when all swing alone."""
        self.refuse_unless(word in self.bands, "NotThere", word)
        stands = brute.beats(self.stand(word), len(self.bands[word]) + 3, self.rings[word])
        turns = [{cut for cut in range(1, self.many + 1) for one, two in zip(here, there) if one[cut - 1] != two[cut - 1]}
                 for here, there in zip(stands, stands[1:])]
        ring = self.rings[word]
        loose = [cut for cut in range(1, self.many + 1) if not brute.held(stands[0], cut, ring)]
        settled = [beat for beat in range(len(turns)) if all(turned <= set(loose) for turned in turns[beat:])]
        return settled[0], loose
