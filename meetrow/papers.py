"""Papers: what shows, by the folk near by and without going there, where a folk stands behind so many beats."""

from meetrow.courses import course_of, cut_bit, free_at, frees_of
from meetrow.sides import is_whole
from meetrow.ways import streets_at


def paper(town, stand, folk, beats, *, ring=False):
    """The paper of a folk behind so many beats."""
    frees = frees_of(stand, ring)
    course = course_of(stand, frees, folk, ring)
    cuts = streets_at(town, course.spot_behind(beats))
    return tuple([(cut, *_word(frees, folk, course.away(cut), beats, cut, ring)) for cut in cuts])


def _word(frees, folk, away, beats, cut, ring):
    """The word and the step that show the side of a cut."""
    if away is None or away > beats:
        return ("turns", 0)
    return ("before" if _is_held(frees, folk - away, cut, ring) else "behind", away)


def _is_held(frees, place, cut, ring):
    """Whether one stands at a place and is held at the cut."""
    return not free_at(frees, place, ring) & cut_bit(cut)


def is_paper(town, stand, folk, beats, spot, thing, *, ring=False):
    """Whether anything is a paper that the folk is at the spot behind so many beats."""
    cuts = streets_at(town, spot)
    if not isinstance(thing, tuple) or len(thing) != len(cuts):
        return False
    frees = frees_of(stand, ring)
    course = course_of(stand, frees, folk, ring)
    for cut, entry in zip(cuts, thing):
        if not _is_entry(cut, entry):
            return False
        _, word, step = entry
        if not _is_so(frees, folk, course.away(cut), beats, entry, ring):
            return False
        if _shown(stand, folk, beats, entry) != spot[cut - 1]:
            return False
    return True


def _is_entry(cut, thing):
    """Whether anything is a tuple of this cut, anything and a whole number."""
    if not isinstance(thing, tuple) or len(thing) != 3:
        return False
    told, _, step = thing
    return is_whole(told) and told == cut and is_whole(step)


def _is_so(frees, folk, away, beats, entry, ring):
    """Whether an entry tells what is so, the nearest that is held being so far away."""
    cut, word, step = entry
    if word == "turns":
        return step == 0 and (away is None or away >= beats)
    if away is None or step != away or step > beats:
        return False
    if word == "before":
        return _is_held(frees, folk - step, cut, ring)
    return word == "behind" and _is_held(frees, folk + step, cut, ring)


def _shown(stand, folk, beats, entry):
    """The side that an entry shows that is so."""
    cut, word, step = entry
    if word == "turns":
        own = stand[folk][cut - 1]
        return -own if beats & 1 else own
    place = folk - step if word == "before" else folk + step
    return stand[int(place) % len(stand)][cut - 1]
