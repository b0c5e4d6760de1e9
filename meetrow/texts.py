"""Texts: towns, stands and halls shown as rows of words, and read again."""

from meetrow.errors import (
    IsThere,
    NoBans,
    NoFolk,
    NoHands,
    NoQuarter,
    NoSpot,
    NoText,
    NotPlain,
    NotRing,
    NotRow,
    NotThere,
    TooFew,
    TooMany,
)
from meetrow.hall import LEAST_RING, MOST_FOLK, Hall
from meetrow.sides import side_of
from meetrow.towns import Town
from meetrow.words import is_name

# No number in a text has more figures: ten to the hundred is the greatest one.
MOST_FIGURES = 101

# What stands behind the word of each deed.
DEEDS = {
    "row": ("name", "spots"),
    "ring": ("name", "spots"),
    "go": ("beats",),
    "carry": ("number", "spot"),
    "part": ("number", "name"),
    "unclose": ("number",),
    "hook": ("name", "name"),
    "close": ("name",),
    "drop": ("name",),
    "bell": ("name", "number", "numbers"),
    "unbell": ("name",),
}


def show_town(town):
    """The text of a town."""
    return str(town)


def read_town(text):
    """The town whose text it is; refused with NoText where it is none."""
    first, *others = [row.split(" ") for row in text.split("\n")]
    if len(first) != 2 or first[0] != "town":
        raise NoText()
    town = _town(_number(first[1]), [_ban(words) for words in others])
    # So all bans are told, and no others, and all in their order.
    if show_town(town) != text:
        raise NoText()
    return town


def _ban(words):
    if len(words) != 3 or words[0] != "ban":
        raise NoText()
    return (_number(words[1]), _number(words[2]))


def _town(many, bans):
    try:
        return Town(many, bans)
    except (NoBans, NotPlain):
        raise NoText() from None


def _number(word):
    """The number whose text it is."""
    figures = word[1:] if word.startswith("-") else word
    if not figures.isdigit() or not figures.isascii() or len(figures) > MOST_FIGURES or str(int(word)) != word:
        raise NoText()
    return int(word)


def _show_spot(spot):
    return "".join(["+" if side > 0 else "-" for side in spot]) or "."


def _spot(town, word):
    """The spot of the town whose text it is."""
    signs = word if len(town) else ""
    spot = tuple([side_of(cut, sign == "+") for cut, sign in enumerate(signs, start=1)])
    if _show_spot(spot) != word or not town.is_spot(spot):
        raise NoText()
    return spot


def _spots(town, words):
    """The spots of the town whose texts these are, as many as may stand."""
    if not 1 <= len(words) <= MOST_FOLK:
        raise NoText()
    return [_spot(town, word) for word in words]


def show_stand(stand, *, ring=False):
    """The text of a stand."""
    return "\n".join(["ring" if ring else "row"] + [_show_spot(spot) for spot in stand])


def read_stand(town, text):
    """The stand of the town's spots whose text it is, and whether it is a ring; refused with NoText else."""
    first, *others = text.split("\n")
    if first not in ("row", "ring"):
        raise NoText()
    stand = _spots(town, others)
    if first == "ring" and len(stand) < LEAST_RING:
        raise NoText()
    return stand, first == "ring"


def show_hall(hall):
    """The text of a hall: its town's, and its deeds."""
    return "\n".join([show_town(hall.town())] + [_show_deed(deed) for deed in hall.deeds()])


def _show_deed(deed):
    words = [deed[0]]
    for kind, thing in zip(DEEDS[deed[0]], deed[1:]):
        if kind == "spots":
            words.extend([_show_spot(spot) for spot in thing])
        elif kind == "numbers":
            words.extend([str(side) for side in thing])
        else:
            words.append(_show_spot(thing) if kind == "spot" else str(thing))
    return " ".join(words)


def read_hall(text):
    """The hall whose text it is; refused with NoText where it is none."""
    rows = text.split("\n")
    bans = 0
    while bans + 1 < len(rows) and rows[bans + 1].startswith("ban "):
        bans += 1
    hall = Hall(read_town("\n".join(rows[: bans + 1])))
    for row in rows[bans + 1 :]:
        name, *words = row.split(" ")
        _do_or_refuse(hall, name, _handed(hall.town(), DEEDS.get(name, ()), words))
    return hall


def _handed(town, kinds, words):
    """What is handed in for a deed, by the kinds of what is due; refused where these are other words."""
    handed = []
    left = words
    for kind in kinds:
        if kind in ("spots", "numbers"):
            handed.append(_spots(town, left) if kind == "spots" else [_number(word) for word in left])
            left = []
        elif left:
            handed.append(_thing(town, kind, left[0]))
            left = left[1:]
        else:
            raise NoText()
    if left:
        raise NoText()
    return handed


def _thing(town, kind, word):
    """The one thing of a kind whose text it is."""
    if kind == "spot":
        return _spot(town, word)
    if kind == "name":
        if not is_name(word):
            raise NoText()
        return word
    number = _number(word)
    if kind == "beats" and not 0 <= number <= 10 ** 50 * 10 ** 50:
        raise NoText()
    return number


def _do_or_refuse(hall, name, handed):
    """Does a deed, refused with NoText where it can't be done."""
    try:
        _do(hall, name, handed)
    except (IsThere, NotThere, NotRow, NotRing, NoFolk, NoHands, NoSpot, NoQuarter, TooFew, TooMany):
        raise NoText() from None


def _do(hall, name, handed):
    match name:
        case "row":
            hall.row(*handed)
        case "ring":
            hall.ring(*handed)
        case "go":
            hall.go(*handed)
        case "carry":
            hall.carry(*handed)
        case "part":
            hall.part(*handed)
        case "unclose":
            hall.unclose(*handed)
        case "hook":
            hall.hook(*handed)
        case "close":
            hall.close(*handed)
        case "drop":
            hall.drop(*handed)
        case "bell":
            hall.bell(*handed)
        case "unbell":
            hall.unbell(*handed)
        case _:
            raise NoText()
