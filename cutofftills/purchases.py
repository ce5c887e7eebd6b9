"""Allowances, and what is worth most by them."""

from cutofftills.errors import BadCount, BadLimits, BadPart
from cutofftills.maps import MOST_AREAS
from cutofftills.reach import Reach, is_count, is_reach, reach_of
from cutofftills.sorting import in_order
from cutofftills.words import is_integer_to, is_list, is_word

# 10 ** 30.
TOP_SUM = 1_000_000_000_000_000_000_000_000_000_000


def is_sum(value):
    """Whether any value is a sum."""
    return is_integer_to(value, TOP_SUM)


def is_kept(value):
    """Whether any value is what a card remembers beside an allowance."""
    if not isinstance(value, tuple) or not 1 <= len(value) <= 2:
        return False
    if len(value) == 1:
        return is_word(value[0], "nothing")
    return (is_word(value[0], "times") or is_word(value[0], "sum")) and is_sum(value[1])


def check_allowance(days, outages, memory):
    """Raises BadLimits for the first of these that does not fit."""
    if not is_list(days) or not 1 <= len(days) <= MOST_AREAS or not all([is_sum(limit) for limit in days]):
        raise BadLimits("days")
    if outages is not None and (not is_list(outages) or len(outages) != len(days)):
        raise BadLimits("outages")
    if outages is not None and not all([limit is None or is_sum(limit) for limit in outages]):
        raise BadLimits("outages")
    if not is_kept(memory):
        raise BadLimits("memory")


class Allowance:
    """For each area a limit for a day and one for an outage, and what the card remembers; it never changes."""

    def __init__(self, days, *, outages=None, memory=("nothing",)):
        check_allowance(days, outages, memory)
        self.by_day = tuple(days)
        self.by_outage = (None,) * len(days) if outages is None else tuple(outages)
        self.memory = memory

    def __len__(self):
        return len(self.by_day)

    def __eq__(self, other):
        return (isinstance(other, Allowance) and self.by_day == other.by_day
                and self.by_outage == other.by_outage and self.memory == other.memory)

    def worth(self, count):
        """The most that can be paid by a count, or None if there is no bound."""
        if not is_count(count, len(self.by_day)):
            raise BadCount(count)
        rows = [row for days, limit, top in zip(count, self.by_day, self.by_outage)
                for row in payments_of(days, limit, top)]
        if self.memory[0] == "times":
            return worth_of_times(rows, self.memory[1])
        if any([times is None for _, times in rows]):
            return self.memory[1] if self.memory[0] == "sum" else None
        worth = sum([units * times for units, times in rows])
        return self.memory[1] if self.memory[0] == "sum" and self.memory[1] < worth else worth


def payments_of(days, limit, top):
    """The best payments of an area on so many of its days: tuples (units, how often), greater units first.

    Each day is paid once, with the limit for a day, until the limit for an
    outage leaves less than that.
    """
    if limit == 0:
        return []
    if top is None or (days is not None and days * limit <= top):
        return [(limit, days)]
    return [(limit, top // limit), (top - top // limit * limit, 1)]


def worth_of_times(rows, many):
    """The most that can be paid by not more than so many of some payments."""
    worth = 0
    for units, at in in_order([(units, at) for at, (units, _) in enumerate(rows)])[::-1]:
        times = rows[at][1]
        often = many if times is None or times > many else times
        worth = worth + units * often
        many = many - often
    return worth


def most_by(reach, allowance):
    """The greatest worth of the counts of a reach, or None if there is no bound."""
    if not is_reach(reach, len(allowance)):
        raise BadPart("reach")
    worths = [allowance.worth(peak) for peak in reach.peaks]
    if any([worth is None for worth in worths]):
        return None
    return max([int(worth) for worth in worths])


def most_paid(chart, allowance):
    """The greatest worth of the counts of the reach of a map, or None if there is no bound."""
    if not isinstance(allowance, Allowance):
        raise BadPart("allowance")
    return most_by(reach_of(chart), allowance)


def parting_allowance(one, other):
    """An Allowance by which most_by of one reach is more than that of the other, or None where one <= other."""
    if not isinstance(one, Reach):
        raise BadPart("one")
    if not is_reach(other, one.size):
        raise BadPart("other")
    for peak in one.peaks:
        if peak not in other:
            # By 1 a day no count of the other reach is worth all of this, as it is lesser somewhere.
            tops = [days if days is not None else above_all(other, area) for area, days in enumerate(peak)]
            return Allowance((1,) * one.size, outages=tops)
    return None


def above_all(reach, area):
    """A number above those of all counts of a reach that have a bound in an area."""
    counts = [peak[area] for peak in reach.peaks if peak[area] is not None]
    return 1 + max([int(days) for days in counts]) if counts else 1
