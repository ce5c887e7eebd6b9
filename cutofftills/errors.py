"""The errors of the package; each keeps the one value that it is made from."""


class TownError(ValueError):
    """What the errors over wrong values have in common."""


class BadTill(TownError):
    """A till does not fit, or is lacking."""

    def __init__(self, index):
        self.index = index


class BadLink(TownError):
    """A link does not fit."""

    def __init__(self, index):
        self.index = index


class BadPart(TownError):
    """A part of something does not fit."""

    def __init__(self, part):
        self.part = part


class BadEvent(TownError):
    """An event is none, or cannot be."""

    def __init__(self, index):
        self.index = index


class BadWhole(TownError):
    """A whole that is to be split does not fit."""

    def __init__(self, whole):
        self.whole = whole


class BadWish(TownError):
    """A wish does not fit."""

    def __init__(self, wish):
        self.wish = wish


class BadMenu(TownError):
    """An entry of a menu does not fit."""

    def __init__(self, index):
        self.index = index


class BadKind(TownError):
    """There is no memory of this kind."""

    def __init__(self, kind):
        self.kind = kind


class BadTown(TownError):
    """A town does not fit."""

    def __init__(self, town):
        self.town = town


class BadNight(TownError):
    """What a till tells at night does not fit."""

    def __init__(self, name):
        self.name = name


class BadText(TownError):
    """A row of a text does not fit."""

    def __init__(self, index):
        self.index = index


class BadLine(TownError):
    """A line to the console does not fit."""

    def __init__(self, line):
        self.line = line


class BadForm(TownError):
    """A term of a form does not fit."""

    def __init__(self, index):
        self.index = index


class BadLimits(TownError):
    """Some limits do not fit."""

    def __init__(self, limits):
        self.limits = limits


class BadMap(TownError):
    """A part of a map does not fit."""

    def __init__(self, part):
        self.part = part


class BadWalk(TownError):
    """A stop of a walk does not fit."""

    def __init__(self, index):
        self.index = index


class BadCount(TownError):
    """A count does not fit."""

    def __init__(self, index):
        self.index = index


class UnknownTill(KeyError):
    """No till has this name."""

    def __init__(self, name):
        self.name = name


class UnknownPlace(KeyError):
    """A map has no such place."""

    def __init__(self, place):
        self.place = place


class TooMany(OverflowError):
    """There would be more than the limit allows."""

    def __init__(self, limit):
        self.limit = limit


class NothingToUndo(RuntimeError):
    """Nothing was done that could be taken back."""

    def __init__(self, name):
        self.name = name
