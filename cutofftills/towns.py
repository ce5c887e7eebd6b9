"""A town: its tills and links, the money and memory of its card, and its tops."""

from cutofftills.errors import BadLink, BadPart, BadTill, TooMany, UnknownTill
from cutofftills.tills import Till
from cutofftills.words import (
    MOST_TOPS,
    TOP_MONEY,
    is_integer,
    is_integer_to,
    is_limit,
    is_list,
    is_memory,
    is_name,
    is_truth,
)

MOST_TILLS = 4
EVEN_NAMES = "abcd"


def check_tills(tills):
    """Raises BadTill or TooMany if these are not the tills of a town."""
    if not is_list(tills) or len(tills) == 0:
        raise BadTill(None)
    names = {}
    for index, till in enumerate(tills):
        if not isinstance(till, Till) or till.name in names:
            raise BadTill(index)
        names[till.name] = True
    if len(tills) > MOST_TILLS:
        raise TooMany(MOST_TILLS)


def is_link(names, value):
    """Whether any value is a link between tills of these names."""
    if not isinstance(value, tuple) or len(value) != 2:
        return False
    one, other = value
    if not is_name(one) or not is_name(other):
        return False
    return one in names and other in names and one < other


def check_links(names, links):
    """Raises BadLink if these are not the links of a town with these names."""
    if not is_list(links):
        raise BadLink(None)
    earlier = {}
    for index, link in enumerate(links):
        if not is_link(names, link) or link in earlier:
            raise BadLink(index)
        earlier[link] = True


def ascending_links(names, links):
    """The ascending tuple of the links; pairs are not sorted, as only strings are (L5)."""
    ordered = sorted([str(name) for name in names])
    return tuple([(one, other) for one in ordered for other in ordered if (one, other) in links])


def check_parts(money, memory, tops, numbered):
    """Raises BadPart for the first of these that does not fit."""
    if not is_integer_to(money, TOP_MONEY):
        raise BadPart("money")
    if not is_memory(memory):
        raise BadPart("memory")
    if not is_integer_to(tops, MOST_TOPS):
        raise BadPart("tops")
    if not is_truth(numbered):
        raise BadPart("numbered")


def joined_names(names, links, name):
    """Those of the names to which links lead from one of them, itself among them."""
    found = {name: True}
    grows = True
    while grows:
        grows = False
        for one, other in links:
            if (one in found) != (other in found):
                found[one] = True
                found[other] = True
                grows = True
    return [one for one in names if one in found]


class Town:
    """Tills with a card that pays at them; it never changes."""

    def __init__(self, tills, *, links=(), money=0, memory=("nothing",), tops=0, numbered=True):
        check_tills(tills)
        names = [till.name for till in tills]
        check_links(names, links)
        check_parts(money, memory, tops, numbered)
        self._tills = tuple(tills)
        self._by_name = {till.name: till for till in tills}
        self.links = ascending_links(names, links)
        self.money = money
        self.memory = memory
        self.tops = tops
        self.numbered = numbered

    def __eq__(self, other):
        return (isinstance(other, Town) and self._tills == other._tills and self.links == other.links
                and self.money == other.money and self.memory == other.memory
                and self.tops == other.tops and self.numbered == other.numbered)

    def __len__(self):
        return len(self._tills)

    def __iter__(self):
        raise TypeError("a town cannot be iterated")

    def __contains__(self, x):
        return is_name(x) and x in self._by_name

    def __getitem__(self, at):
        if not is_name(at) or at not in self._by_name:
            raise UnknownTill(at)
        return self._by_name[at]

    def names(self):
        """The names of the tills, in order."""
        return [till.name for till in self._tills]

    def group(self, name):
        """The names of the tills in the group of a till, in the order of the town."""
        if name not in self:
            raise UnknownTill(name)
        return joined_names(self.names(), self.links, name)

    def with_till(self, till):
        """The Town with a Till in the place of the one with its name."""
        if not isinstance(till, Till):
            raise BadTill(till)
        if till.name not in self:
            raise UnknownTill(till.name)
        return self._with_tills([till if one.name == till.name else one for one in self._tills])

    def with_links(self, links):
        """The Town with other links."""
        return Town(self._tills, links=links, money=self.money, memory=self.memory,
                    tops=self.tops, numbered=self.numbered)

    def changed(self, part, value):
        """The Town with another money, memory, tops or numbered."""
        parts = {"money": self.money, "memory": self.memory, "tops": self.tops, "numbered": self.numbered}
        if not isinstance(part, str) or part not in parts:
            raise BadPart(part)
        parts[part] = value
        return Town(self._tills, links=self.links, money=parts["money"], memory=parts["memory"],
                    tops=parts["tops"], numbered=parts["numbered"])

    def with_limits(self, limits):
        """The Town with other limits, one for each till in order."""
        if not is_list(limits) or len(limits) != len(self._tills):
            raise BadPart("limits")
        if not all([is_limit(limit) for limit in limits]):
            raise BadPart("limits")
        return self._with_tills([till.changed("limit", limit) for till, limit in zip(self._tills, limits)])

    def _with_tills(self, tills):
        """The Town with other tills of the same names."""
        return Town(tills, links=self.links, money=self.money, memory=self.memory,
                    tops=self.tops, numbered=self.numbered)

    @staticmethod
    def even(many, limit, money):
        """The Town of so many tills, a, b and so on, all with this limit."""
        if not is_integer(many) or not 1 <= many <= MOST_TILLS:
            raise TooMany(MOST_TILLS)
        return Town([Till(name, limit) for name in EVEN_NAMES[:many]], money=money)
