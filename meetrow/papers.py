"""Papers: what shows, by the folk near by and without going there, where a folk stands behind so many beats."""

from meetrow.beats import behind, gaps
from meetrow.sides import is_whole
from meetrow.ways import streets_at


def paper(town, stand, folk, beats, *, ring=False):
    """The paper of a folk behind so many beats."""
    spot = behind(stand, beats, ring=ring)[folk]
    return tuple([_entry(stand, folk, beats, cut, ring) for cut in streets_at(town, spot)])


def _gaps_of(stand, folk, cut, ring):
    """How many folk before and how many behind this one the nearest is that is held at the cut."""
    fores, rears = gaps(stand, cut, ring)
    return fores[folk], rears[folk]


def _entry(stand, folk, beats, cut, ring):
    fore, rear = _gaps_of(stand, folk, cut, ring)
    step = min(fore, rear)
    if step > beats or step == len(stand):
        return (cut, "turns", 0)
    return (cut, "before" if fore == step else "behind", step)


def is_paper(town, stand, folk, beats, spot, thing, *, ring=False):
    """Whether anything is a paper that the folk is at the spot behind so many beats."""
    cuts = streets_at(town, spot)
    if not isinstance(thing, tuple) or len(thing) != len(cuts):
        return False
    for cut, entry in zip(cuts, thing):
        if not _is_entry(cut, entry) or _shown(stand, folk, beats, entry, ring) != spot[cut - 1]:
            return False
    return True


def _is_entry(cut, thing):
    """Whether anything is a tuple of this cut, anything and a whole number."""
    if not isinstance(thing, tuple) or len(thing) != 3:
        return False
    told, _, step = thing
    return is_whole(told) and told == cut and is_whole(step)


def _shown(stand, folk, beats, entry, ring):
    """The side that an entry shows, or None where it isn't so."""
    cut, word, step = entry
    fore, rear = _gaps_of(stand, folk, cut, ring)
    nearest = min(fore, rear)
    none_held = nearest == len(stand)
    if word == "turns":
        own = stand[folk][cut - 1]
        is_so = step == 0 and (none_held or nearest >= beats)
        return (-own if beats & 1 else own) if is_so else None
    if none_held or step != nearest or step > beats:
        return None
    if word == "before" and fore == step:
        return stand[folk - step][cut - 1]
    if word == "behind" and rear == step:
        return stand[int(folk + step) % len(stand)][cut - 1]
    return None
