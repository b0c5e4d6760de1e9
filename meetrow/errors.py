"""The refusals of the program, each with its fields."""


class NoBans(ValueError):
    """The number of cuts is none, or the thing isn't bans of so many cuts."""


class NotPlain(ValueError):
    """The bans let nothing, or a cut is one-sided or alike with a lesser one."""

    def __init__(self, word, cut):
        self.word = word
        self.cut = cut


class NoText(ValueError):
    """A text or bytes that nothing is shown or packed as."""


class NoWeb(ValueError):
    """A number of spots and streets that are no web."""


class NoQuarter(ValueError):
    """A quarter without a spot."""

    def __init__(self, number):
        self.number = number


class NoSpot(ValueError):
    """What is no spot of the town."""

    def __init__(self, number):
        self.number = number


class TooFew(ValueError):
    """A ring of less than three folk."""


class IsThere(KeyError):
    """A word that is taken."""

    def __init__(self, word):
        self.word = word


class NotThere(KeyError):
    """A word that nothing has."""

    def __init__(self, word):
        self.word = word


class NotRow(KeyError):
    """The word of a ring where a row is due."""

    def __init__(self, word):
        self.word = word


class NotRing(KeyError):
    """The word of a row where a ring is due."""

    def __init__(self, word):
        self.word = word


class NoFolk(KeyError):
    """What is no folk that is there."""

    def __init__(self, folk):
        self.folk = folk


class NoHands(KeyError):
    """A folk that has no hand to let go, or none to give."""

    def __init__(self, folk):
        self.folk = folk


class TooMany(IndexError):
    """More than the most that are let."""

    def __init__(self, most):
        self.most = most


class NoNumber(IndexError):
    """A number below nought, or not below how many there are."""

    def __init__(self, many):
        self.many = many


class NoDeed(IndexError):
    """No deed is left to be taken back."""


class NoMoment(IndexError):
    """A moment at which the folk wasn't there."""

    def __init__(self, moment):
        self.moment = moment
