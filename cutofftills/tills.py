"""A till: its name, its limit, and whether it heeds the list of stopped cards."""

from cutofftills.errors import BadPart
from cutofftills.words import is_limit, is_name, is_truth, is_word


class Till:
    """One till of a town; it never changes."""

    def __init__(self, name, limit, *, heeds=True):
        if not is_name(name):
            raise BadPart("name")
        if not is_limit(limit):
            raise BadPart("limit")
        if not is_truth(heeds):
            raise BadPart("heeds")
        self.name = name
        self.limit = limit
        self.heeds = heeds

    def __eq__(self, other):
        return (isinstance(other, Till) and self.name == other.name
                and self.limit == other.limit and self.heeds == other.heeds)

    def __le__(self, other):
        if not isinstance(other, Till):
            return NotImplemented
        return self.name == other.name and self.limit <= other.limit and (self.heeds or not other.heeds)

    def changed(self, part, value):
        """The Till with another limit or heeds."""
        if is_word(part, "limit"):
            return Till(self.name, value, heeds=self.heeds)
        if is_word(part, "heeds"):
            return Till(self.name, self.limit, heeds=value)
        raise BadPart(part)
