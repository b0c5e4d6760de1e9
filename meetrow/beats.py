"""Beats: where each of a row or ring goes, all at once, and where each stands behind any number of beats."""

from meetrow.courses import Chain, course_of, courses_of, cut_bit, threes
from meetrow.ways import meet


def beat(stand, *, ring=False):
    """The stand behind one beat."""
    return [meet(before, here, after) for before, here, after in threes(stand, ring)]


def behind(stand, beats, *, ring=False):
    """The stand behind so many beats."""
    return [course.spot_behind(beats) for course in courses_of(stand, ring)]


def held(stand, cut, *, ring=False):
    """The folk that are held at the cut, rising."""
    chain = Chain(stand, ring)
    return [folk for folk in range(len(stand)) if chain.is_held(folk, cut)]


def rest(stand, *, ring=False):
    """The beat from which on only the cuts change at which none is held, and those cuts, rising."""
    return rest_of(courses_of(stand, ring))


def rest_of(courses):
    """The beat from which on only the cuts change at which none is held, and those cuts, by the courses of all."""
    first = courses[0]
    cuts = [cut for cut in range(1, len(first.spot) + 1) if first.loose & cut_bit(cut)]
    return max([course.last_turn() for course in courses]), cuts


def first_at(stand, folk, spot, *, ring=False):
    """The first beat, from 0, behind which the folk stands at the spot, or None."""
    return first_there(course_of(stand, folk, ring), spot)


def first_there(course, spot):
    """The first beat, from 0, behind which a folk, by its course, stands at the spot, or None."""
    # Behind the last turn all comes again by two beats.
    for beats in range(course.last_turn() + 2):
        if course.spot_behind(beats) == spot:
            return beats
    return None


def first_meet(stand, one, other, *, ring=False):
    """The first beat, from 0, behind which the two folk stand at one spot, or None."""
    chain = Chain(stand, ring)
    return first_same(chain.course(one), chain.course(other))


def first_same(course, other):
    """The first beat, from 0, behind which two folk, by their courses, stand at one spot, or None."""
    for beats in range(max(course.last_turn(), other.last_turn()) + 2):
        if course.number_behind(beats) == other.number_behind(beats):
            return beats
    return None
