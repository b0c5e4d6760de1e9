"""Papers: what shows, by the folk near by and without going there, where a folk stands behind so many beats."""

from meetrow.courses import Chain
from meetrow.sides import is_whole
from meetrow.ways import streets_at


def paper(town, stand, folk, beats, *, ring=False):
    """The paper of a folk behind so many beats."""
    chain = Chain(stand, ring)
    course = chain.course(folk)
    cuts = streets_at(town, course.spot_behind(beats))
    return tuple([_entry(chain, folk, course.away(cut), beats, cut) for cut in cuts])


def _entry(chain, folk, away, beats, cut):
    """The entry of a cut, the nearest that is held there being so far away."""
    if away is None or away > beats:
        return (cut, "turns", 0)
    return (cut, "before" if chain.is_held(folk - away, cut) else "behind", away)


def is_paper(town, stand, folk, beats, spot, thing, *, ring=False):
    """Whether anything is a paper that the folk is at the spot behind so many beats."""
    cuts = streets_at(town, spot)
    if not isinstance(thing, tuple) or len(thing) != len(cuts):
        return False
    chain = Chain(stand, ring)
    course = chain.course(folk)
    for cut, entry in zip(cuts, thing):
        if not _is_entry(cut, entry) or not _is_so(chain, folk, course.away(cut), beats, entry):
            return False
        if _shown(stand, folk, beats, entry) != spot[cut - 1]:
            return False
    return True


def _is_entry(cut, thing):
    """Whether anything is a tuple of this cut, anything and a whole number."""
    if not isinstance(thing, tuple) or len(thing) != 3:
        return False
    told, _, step = thing
    return is_whole(told) and told == cut and is_whole(step)


def _is_so(chain, folk, away, beats, entry):
    """Whether an entry tells what is so, the nearest that is held at its cut being so far away."""
    cut, word, step = entry
    if word == "turns":
        return step == 0 and (away is None or away >= beats)
    if away is None or step != away or step > beats:
        return False
    if word == "before":
        return chain.is_held(folk - step, cut)
    return word == "behind" and chain.is_held(folk + step, cut)


def _shown(stand, folk, beats, entry):
    """The side that an entry shows that is so."""
    cut, word, step = entry
    if word == "turns":
        own = stand[folk][cut - 1]
        return -own if beats & 1 else own
    place = folk - step if word == "before" else folk + step
    return stand[int(place) % len(stand)][cut - 1]
