"""Settings: what comes of some by meeting, again and again, and the plain form by which it is told."""

from itertools import combinations

from meetrow.errors import TooMany
from meetrow.maps import led_by
from meetrow.masks import majority, number_of
from meetrow.plain import form_of, leads_on
from meetrow.towns import Town

MOST_SETTINGS = 24


def plain_of(many, settings):
    """The plain form (many, bans, table) of all that come of the settings by meeting."""
    # No meeting brings two sides together that no setting has both, and whatever breaks no such two does come.
    return form_of(many, leads_on(many, settings))


def closed(many, settings):
    """All that come of the settings by meeting, rising; refused with TooMany where they are more than 500."""
    few, bans, table = plain_of(many, settings)
    # A lot of alike cuts is told by its least one, so what is led from spots that rise is rising, too.
    return [led_by(table, spot) for spot in Town(few, bans).spots()]


def unclosed(settings):
    """The numbers of the first three settings whose meeting is none of them, or None."""
    if len(settings) > MOST_SETTINGS:
        raise TooMany(MOST_SETTINGS)
    numbers = [number_of(setting) for setting in settings]
    known = {number: True for number in numbers}
    for one, two, three in combinations(range(len(numbers)), 3):
        if majority(numbers[one], numbers[two], numbers[three]) not in known:
            return (one, two, three)
    return None
