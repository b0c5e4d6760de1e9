"""Tallies: the streets that a folk goes along, its comings into a quarter, and when two stands are the same."""

from meetrow.beats import first_same
from meetrow.courses import course_of, courses_of, frees_of
from meetrow.quarters import has_sides


def walked(stand, folk, beats, *, ring=False):
    """How many streets the folk goes along in so many beats."""
    course = course_of(stand, frees_of(stand, ring), folk, ring)
    at_most = sum([min(step, beats) * _many_cuts(mask) for step, mask in enumerate(course.waits)])
    return at_most + beats * _many_cuts(course.loose)


def _many_cuts(mask):
    return f"{mask:b}".count("1")


def comings(stand, folk, sides, beats, *, ring=False):
    """How many of so many beats bring the folk into the quarter of the sides from outside."""
    return comings_of(course_of(stand, frees_of(stand, ring), folk, ring), sides, beats)


def comings_of(course, sides, beats):
    """How many of so many beats bring a folk, by its course, into the quarter of the sides from outside."""
    last = course.last_turn()
    is_in = [has_sides(course.spot_behind(gone), sides) for gone in range(last + 2)]
    comes = [not is_in[gone] and is_in[gone + 1] for gone in range(last + 1)]
    if beats <= last:
        return sum(comes[:beats])
    # Behind the last turn a coming and a leaving take turns, whichever is the first.
    left = beats - last
    leaves = is_in[last] and not is_in[last + 1]
    return sum(comes[:last]) + ((left + 1) // 2 if comes[last] else 0) + (left // 2 if leaves else 0)


def alike_from(stand, other, *, ring=False):
    """The first beat from which on two stands are the same, or None where never."""
    # What is the same goes on the same: so the first beat behind which all are is the one.
    return first_same(courses_of(stand, ring), courses_of(other, ring))
