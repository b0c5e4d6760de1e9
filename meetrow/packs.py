"""Packs: stands as bytes, a bit for each side."""

from meetrow.errors import NoText
from meetrow.sides import side_of


def pack(stand):
    """The bytes of a stand."""
    signs = ["1" if side > 0 else "0" for spot in stand for side in spot]
    signs.extend(["0"] * _spare(len(signs)))
    # With no sides there is nothing to be read as a number.
    return int("".join(["0", *signs]), 2).to_bytes(len(signs) // 8, "big")


def _spare(many):
    """How many bits fill up the last byte behind so many."""
    return -many & 7


def unpack(town, folk, data):
    """The stand of so many folk that is packed so; refused with NoText where it is none of the town's spots."""
    many = folk * len(town)
    spare = _spare(many)
    if len(data) * 8 != many + spare:
        raise NoText()
    number = int.from_bytes(data, "big")
    signs = f"{number:b}".rjust(many + spare, "0")
    if "1" in signs[many:]:
        raise NoText()
    stand = [_spot(signs[at * len(town) : (at + 1) * len(town)]) for at in range(folk)]
    if not all([town.is_spot(spot) for spot in stand]):
        raise NoText()
    return stand


def _spot(signs):
    return tuple([side_of(cut, sign == "1") for cut, sign in enumerate(signs, start=1)])
