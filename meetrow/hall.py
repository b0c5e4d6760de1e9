"""The hall: rows and rings of folk that come and go, are carried, parted, hooked and drop out; and their bells."""

from meetrow.beats import first_same, first_there, rest_of
from meetrow.errors import (
    IsThere,
    NoDeed,
    NoFolk,
    NoHands,
    NoMoment,
    NoQuarter,
    NoSpot,
    NotRing,
    NotRow,
    NotThere,
    TooFew,
    TooMany,
)
from meetrow.papers import paper
from meetrow.scenes import (
    Band,
    Chime,
    carried,
    empty_scene,
    gone_on,
    with_band,
    with_bands,
    with_chimes,
    with_comers,
    without,
)
from meetrow.sides import are_sides, is_whole
from meetrow.tallies import comings_of

LEAST_RING = 3
MOST_FOLK = 60


class Hall:
    """A hall of a town."""

    def __init__(self, town):
        self._town = town
        self._deeds = []
        # The scene ahead of all deeds, then one behind each.
        self._scenes = [empty_scene()]

    def town(self):
        """The town of the hall."""
        return self._town

    def deeds(self):
        """The deeds that aren't taken back, in order, each its word and what was handed in."""
        return list(self._deeds)

    def _scene(self):
        return self._scenes[-1]

    def _do(self, deed, scene):
        self._deeds.append(deed)
        self._scenes.append(scene)

    def _band(self, word):
        """The row or ring by a word, refused where there is none."""
        if word not in self._scene().bands:
            raise NotThere(word)
        return self._scene().bands[word]

    def _row_by(self, word):
        """The row by a word that is there, refused where it is a ring."""
        band = self._band(word)
        if band.is_round:
            raise NotRow(word)
        return band

    def _refuse_taken(self, word):
        if word in self._scene().bands:
            raise IsThere(word)

    def _refuse_no_folk(self, folk):
        if not is_whole(folk) or folk not in self._scene().came:
            raise NoFolk(folk)

    def _refuse_no_spot(self, spot, number):
        if not self._town.is_spot(spot):
            raise NoSpot(number)

    def _standing(self, folk):
        """The word of the row or ring of a folk, itself, and the folk's place in it; refused where it isn't there."""
        self._refuse_no_folk(folk)
        word = self._scene().word_of(folk)
        band = self._scene().bands[word]
        return word, band, band.folk.index(folk)

    def _chime(self, word):
        """The bell by a word, refused where there is none."""
        if word not in self._scene().chimes:
            raise NotThere(word)
        return self._scene().chimes[word]

    def row(self, word, stand):
        """A row comes."""
        self._refuse_taken(word)
        self._come("row", word, stand, False)

    def ring(self, word, stand):
        """A ring comes."""
        self._refuse_taken(word)
        if len(stand) < LEAST_RING:
            raise TooFew()
        self._come("ring", word, stand, True)

    def _come(self, deed, word, stand, is_ring):
        for number, spot in enumerate(stand):
            self._refuse_no_spot(spot, number)
        if len(self._scene().came) + len(stand) > MOST_FOLK:
            raise TooMany(MOST_FOLK)
        self._do((deed, word, tuple(stand)), with_comers(self._scene(), word, stand, is_ring))

    def go(self, beats):
        """So many beats pass."""
        self._do(("go", beats), gone_on(self._scene(), beats))

    def carry(self, folk, spot):
        """A folk is carried to a spot."""
        self._refuse_no_folk(folk)
        self._refuse_no_spot(spot, 0)
        self._do(("carry", folk, spot), carried(self._scene(), folk, spot))

    def part(self, folk, word):
        """A folk lets go the one behind it; those behind are a row by a new word."""
        elder, band, at = self._standing(folk)
        if band.is_round:
            raise NotRow(elder)
        if at == len(band.folk) - 1:
            raise NoHands(folk)
        self._refuse_taken(word)
        first, others = band.cut_at(at + 1)
        self._do(("part", folk, word), with_band(with_band(self._scene(), elder, first), word, others))

    def unclose(self, folk):
        """A ring is a row that begins behind a folk."""
        word, band, at = self._standing(folk)
        if not band.is_round:
            raise NotRing(word)
        last, first = band.cut_at(at + 1)
        self._do(("unclose", folk), with_band(self._scene(), word, _joined(first, last)))

    def hook(self, word, other):
        """Another row stands behind the first, hand in hand."""
        self._band(word)
        self._band(other)
        first = self._row_by(word)
        last = self._row_by(other)
        if word == other:
            raise NoHands(first.folk[0])
        scene = self._scene()
        bands = {name: band for name, band in scene.bands.items() if name != other}
        # A word that is there keeps its place.
        bands[word] = _joined(first, last)
        self._do(("hook", word, other), with_bands(scene, bands))

    def close(self, word):
        """A row is a ring."""
        band = self._row_by(word)
        if len(band.folk) < LEAST_RING:
            raise TooFew()
        self._do(("close", word), with_band(self._scene(), word, Band(band.folk, band.places, True)))

    def drop(self, word):
        """A row or ring leaves."""
        self._band(word)
        self._do(("drop", word), without(self._scene(), word))

    def bell(self, word, folk, sides):
        """A bell is hung by which a folk's comings into a quarter ring."""
        scene = self._scene()
        if word in scene.chimes:
            raise IsThere(word)
        self._refuse_no_folk(folk)
        if not self._are_sides(sides) or self._town.clash(sides) is not None:
            raise NoQuarter(0)
        chimes = {**scene.chimes, word: Chime(folk, list(sides), 0)}
        self._do(("bell", word, folk, tuple(sides)), with_chimes(scene, chimes))

    def _are_sides(self, thing):
        return isinstance(thing, list) and are_sides(len(self._town), thing)

    def unbell(self, word):
        """A bell is taken down."""
        self._chime(word)
        scene = self._scene()
        left = {name: chime for name, chime in scene.chimes.items() if name != word}
        self._do(("unbell", word), with_chimes(scene, left))

    def back(self):
        """The last deed is undone."""
        if not self._deeds:
            raise NoDeed()
        self._deeds.pop()
        self._scenes.pop()

    def words(self):
        """The words of all rows and rings, in the order in which they came."""
        return list(self._scene().bands)

    def bells(self):
        """The words of all bells, in the order in which they came."""
        return list(self._scene().chimes)

    def now(self):
        """The moment."""
        return self._scene().moment

    def stand(self, word):
        """Where the folk of a row or ring stand."""
        return list(self._band(word).places)

    def folk_of(self, word):
        """The numbers of the folk of a row or ring, in the order in which they stand."""
        return list(self._band(word).folk)

    def is_ring(self, word):
        """Whether a word is a ring's."""
        return self._band(word).is_round

    def far(self, word, beats):
        """Where the folk of a row or ring stand so many beats on, if nothing is done."""
        return [course.spot_behind(beats) for course in self._band(word).courses()]

    def rest(self, word):
        """From which beat on, counted from now, only some cuts change, and those cuts."""
        return rest_of(self._band(word).courses())

    def first_at(self, folk, spot):
        """The first beat, counted from now, behind which a folk stands at a spot, or None."""
        course = self._course(folk)
        self._refuse_no_spot(spot, 0)
        return first_there(course, spot)

    def first_meet(self, one, other):
        """The first beat, counted from now, behind which two folk stand at one spot, or None."""
        return first_same(self._course(one), self._course(other))

    def _course(self, folk):
        """The course of a folk from now on, refused where it isn't there."""
        self._refuse_no_folk(folk)
        return self._scene().course_of_folk(folk)

    def paper(self, folk, beats):
        """The paper of a folk so many beats on."""
        _, band, at = self._standing(folk)
        return paper(self._town, band.places, at, beats, ring=band.is_round)

    def was(self, folk, moment):
        """Where a folk stood at a moment, behind all its deeds."""
        self._refuse_no_folk(folk)
        if not is_whole(moment) or not self._scene().came[folk] <= moment <= self.now():
            raise NoMoment(moment)
        scene = self._last_by(moment)
        return scene.course_of_folk(folk).spot_behind(moment - scene.moment)

    def _last_by(self, moment):
        """The last scene that is not behind a moment."""
        low, high = 0, len(self._scenes)
        while high - low > 1:
            middle = (low + high) // 2
            if self._scenes[middle].moment <= moment:
                low = middle
            else:
                high = middle
        return self._scenes[low]

    def rung(self, word):
        """How often a bell rang till now."""
        return self._chime(word).times

    def tolls(self, word, beats):
        """How often a bell will ring in so many beats, if nothing is done."""
        chime = self._chime(word)
        return comings_of(self._course(chime.folk), chime.sides, beats)


def _joined(first, last):
    """A row and another one behind it, as one."""
    return Band(first.folk + last.folk, first.places + last.places, False)
