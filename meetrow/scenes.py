"""Scenes: all that stands in a hall behind a deed.

A scene is never changed, as deeds may be taken back: each deed tells a new one, which shares what the deed leaves.
"""

from meetrow.courses import course_of, courses_of
from meetrow.quarters import has_sides
from meetrow.tallies import comings_of


class Band:
    """A row or ring: the numbers of its folk, in order, and the spots where they stand."""

    def __init__(self, folk, places, is_ring):
        self.folk = folk
        self.places = places
        self.is_round = is_ring

    def courses(self):
        """The courses of all its folk."""
        return courses_of(self.places, self.is_round)

    def course_of_folk(self, folk):
        """The course of the folk with a number."""
        return course_of(self.places, self.folk.index(folk), self.is_round)

    def cut_at(self, at):
        """Two rows: the first so many folk, and the others."""
        return Band(self.folk[:at], self.places[:at], False), Band(self.folk[at:], self.places[at:], False)


class Chime:
    """A bell: its folk, the sides of its quarter, and how often it rang."""

    def __init__(self, folk, sides, times):
        self.folk = folk
        self.sides = sides
        self.times = times

    def rung_more(self, by):
        """The bell when it has rung so many times more."""
        return Chime(self.folk, self.sides, self.times + by)


class Scene:
    """The moment, the number of the next folk, rows and rings by words, when each folk came, and bells by words."""

    def __init__(self, moment, coming, bands, came, chimes):
        self.moment = moment
        self.coming = coming
        self.bands = bands
        self.came = came
        self.chimes = chimes

    def word_of(self, folk):
        """The word of the row or ring in which a folk stands."""
        return [word for word, band in self.bands.items() if folk in band.folk][0]

    def course_of_folk(self, folk):
        """The course of a folk, if nothing is done."""
        return self.bands[self.word_of(folk)].course_of_folk(folk)


def empty_scene():
    """The scene of a hall to which nobody came."""
    return Scene(0, 0, {}, {}, {})


def with_bands(scene, bands):
    """The scene with these rows and rings of the same folk."""
    return Scene(scene.moment, scene.coming, bands, scene.came, scene.chimes)


def with_chimes(scene, chimes):
    """The scene with these bells."""
    return Scene(scene.moment, scene.coming, scene.bands, scene.came, chimes)


def with_band(scene, word, band):
    """The scene with this row or ring by the word, of folk that are there."""
    return with_bands(scene, {**scene.bands, word: band})


def with_comers(scene, word, stand, is_ring):
    """The scene when a row or ring of new folk came."""
    folk = list(range(scene.coming, scene.coming + len(stand)))
    bands = {**scene.bands, word: Band(folk, list(stand), is_ring)}
    came = dict(scene.came)
    for number in folk:
        came[number] = scene.moment
    return Scene(scene.moment, scene.coming + len(folk), bands, came, scene.chimes)


def without(scene, word):
    """The scene when a row or ring left, with its bells."""
    gone = scene.bands[word].folk
    bands = {other: band for other, band in scene.bands.items() if other != word}
    came = {folk: moment for folk, moment in scene.came.items() if folk not in gone}
    chimes = {bell: chime for bell, chime in scene.chimes.items() if chime.folk not in gone}
    return Scene(scene.moment, scene.coming, bands, came, chimes)


def gone_on(scene, beats):
    """The scene so many beats on."""
    courses = {}
    for band in scene.bands.values():
        for folk, course in zip(band.folk, band.courses()):
            courses[folk] = course
    bands = {
        word: Band(band.folk, [courses[folk].spot_behind(beats) for folk in band.folk], band.is_round)
        for word, band in scene.bands.items()
    }
    chimes = {
        word: chime.rung_more(comings_of(courses[chime.folk], chime.sides, beats))
        for word, chime in scene.chimes.items()
    }
    return Scene(scene.moment + beats, scene.coming, bands, scene.came, chimes)


def carried(scene, folk, spot):
    """The scene when a folk was carried to a spot."""
    word = scene.word_of(folk)
    band = scene.bands[word]
    at = band.folk.index(folk)
    places = [*band.places[:at], spot, *band.places[at + 1 :]]
    chimes = {
        bell: chime.rung_more(1) if chime.folk == folk and _is_coming(band.places[at], spot, chime.sides) else chime
        for bell, chime in scene.chimes.items()
    }
    return with_band(with_chimes(scene, chimes), word, Band(band.folk, places, band.is_round))


def _is_coming(spot, other, sides):
    """Whether a way from one spot to another one leads into a quarter from outside."""
    return has_sides(other, sides) and not has_sides(spot, sides)
