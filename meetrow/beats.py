"""Beats: where each of a row or ring goes, all at once, and where each stands behind any number of beats."""

from meetrow.ways import meet


def beat(stand, *, ring=False):
    """The stand behind one beat."""
    return [meet(before, here, after) for before, here, after in _threes(stand, ring)]


def _threes(things, ring):
    """What each folk has: that of the one before, its own, that of the one behind."""
    # An end of a row is its own neighbour here: so the rule for all tells that it stays, and that it is held.
    first, last = (things[-1], things[0]) if ring else (things[0], things[-1])
    return list(zip([first, *things[:-1]], things, [*things[1:], last]))


def held(stand, cut, *, ring=False):
    """The folk that are held at the cut, rising."""
    return [folk for folk, is_held in enumerate(_marks(stand, cut, ring)) if is_held]


def _marks(stand, cut, ring):
    """Of each folk whether it is held at the cut."""
    sides = [spot[cut - 1] for spot in stand]
    return [side in (before, after) for before, side, after in _threes(sides, ring)]


def gaps(stand, cut, ring):
    """How many folk before each, and how many behind each, the nearest one is that is held at the cut.

    As many as there are folk where there is none: no one stands so many folk away.
    """
    marks = _marks(stand, cut, ring)
    return _gaps_before(marks, ring), _gaps_before(marks[::-1], ring)[::-1]


def _gaps_before(marks, ring):
    many = len(marks)
    found = []
    gap = many
    # Round a ring twice: only then those that stand last are known to stand before the first.
    for is_held in marks * (2 if ring else 1):
        gap = 0 if is_held else min(gap + 1, many)
        found.append(gap)
    return found[-many:]


def _columns(stand, ring):
    """For each cut how many folk away from each the nearest is that is held at it, or None where none is held."""
    return [_column(stand, cut, ring) for cut in range(1, len(stand[0]) + 1)]


def _column(stand, cut, ring):
    fores, rears = gaps(stand, cut, ring)
    column = [min(fore, rear) for fore, rear in zip(fores, rears)]
    return None if column[0] == len(stand) else column


def behind(stand, beats, *, ring=False):
    """The stand behind so many beats."""
    columns = _columns(stand, ring)
    return [_gone(stand, folk, columns, beats) for folk in range(len(stand))]


def _gone(stand, folk, columns, beats):
    """Where a folk stands behind so many beats."""
    return tuple([_side_behind(side, folk, column, beats) for side, column in zip(stand[folk], columns)])


def _side_behind(side, folk, column, beats):
    turns = beats if column is None else min(beats, column[folk])
    return -side if turns & 1 else side


def rest(stand, *, ring=False):
    """The beat from which on only the cuts change at which none is held, and those cuts, rising."""
    columns = _columns(stand, ring)
    return _last_turn(columns), [cut for cut, column in enumerate(columns, start=1) if column is None]


def _last_turn(columns):
    """The first beat from which on no cut changes at which one is held."""
    return max([away for column in columns if column is not None for away in column], default=0)


def first_at(stand, folk, spot, *, ring=False):
    """The first beat, from 0, behind which the folk stands at the spot, or None."""
    for beats, here in enumerate(_course(stand, folk, ring)):
        if here == spot:
            return beats
    return None


def first_meet(stand, one, other, *, ring=False):
    """The first beat, from 0, behind which the two folk stand at one spot, or None."""
    for beats, (here, there) in enumerate(zip(_course(stand, one, ring), _course(stand, other, ring))):
        if here == there:
            return beats
    return None


def _course(stand, folk, ring):
    """Where the folk stands behind 0, 1, 2 .. beats, until all comes again by two beats."""
    columns = _columns(stand, ring)
    return [_gone(stand, folk, columns, beats) for beats in range(_last_turn(columns) + 2)]
