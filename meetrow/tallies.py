"""Tallies: the streets that a folk goes along, its comings into a quarter, and when two stands are the same."""

from meetrow.courses import course_of, courses_of, cut_bit


def walked(stand, folk, beats, *, ring=False):
    """How many streets the folk goes along in so many beats."""
    course = course_of(stand, folk, ring)
    held = sum([min(step, beats) * _many_cuts(mask) for step, mask in enumerate(course.waits)])
    return held + beats * _many_cuts(course.loose)


def _many_cuts(mask):
    return f"{mask:b}".count("1")


def comings(stand, folk, sides, beats, *, ring=False):
    """How many of so many beats bring the folk into the quarter of the sides from outside."""
    return comings_of(course_of(stand, folk, ring), sides, beats)


def comings_of(course, sides, beats):
    """How many of so many beats bring a folk, by its course, into the quarter of the sides from outside."""
    last = course.last_turn()
    is_in = _insides(course, sides, last + 1)
    comes = [not is_in[gone] and is_in[gone + 1] for gone in range(last + 1)]
    if beats <= last:
        return sum(comes[:beats])
    # Behind the last turn a coming and a leaving take turns, whichever is the first.
    left = beats - last
    leaves = is_in[last] and not is_in[last + 1]
    return sum(comes[:last]) + ((left + 1) // 2 if comes[last] else 0) + (left // 2 if leaves else 0)


def _insides(course, sides, last):
    """Whether the folk is in the quarter behind 0, 1, 2 .. beats, up to a last one."""
    on = _mask_of([side for side in sides if side > 0])
    off = _mask_of([-side for side in sides if side < 0])
    numbers = [course.number_behind(beats) for beats in range(last + 1)]
    return [number & on == on and not number & off for number in numbers]


def _mask_of(cuts):
    mask = 0
    for cut in cuts:
        mask |= cut_bit(cut)
    return mask


def alike_from(stand, other, *, ring=False):
    """The first beat from which on two stands are the same, or None where never."""
    pairs = list(zip(courses_of(stand, ring), courses_of(other, ring)))
    last = max([max(one.last_turn(), two.last_turn()) for one, two in pairs])
    if not _are_same(pairs, last):
        return None
    # What is the same goes on the same: so the first such beat is sought between what is behind it and what is ahead.
    first = 0
    while first < last:
        middle = (first + last) // 2
        if _are_same(pairs, middle):
            last = middle
        else:
            first = middle + 1
    return first


def _are_same(pairs, beats):
    """Whether each two folk, by their courses, stand at one spot behind so many beats."""
    return all([one.number_behind(beats) == two.number_behind(beats) for one, two in pairs])
