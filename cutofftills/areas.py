"""Areas that hear one another: maps in which they are one, and what can be paid there."""

from cutofftills.errors import BadPart, BadWish
from cutofftills.hearing import is_less
from cutofftills.linking import all_choices, is_part
from cutofftills.maps import TOP_OUTAGE, Map
from cutofftills.moves import with_item
from cutofftills.purchases import TOP_SUM
from cutofftills.walkpapers import check_chart, most_by_days
from cutofftills.words import is_integer_to


def is_pair(chart, value):
    """Whether any value is an ascending tuple of two indexes of areas."""
    if not isinstance(value, tuple) or len(value) != 2:
        return False
    top = len(chart.areas) - 1
    return is_integer_to(value[0], top) and is_integer_to(value[1], top) and value[0] < value[1]


def check_wish(wish):
    """Raises BadWish for any value that is no wish."""
    if not is_integer_to(wish, TOP_SUM):
        raise BadWish(wish)


def groups_by(many, pairs):
    """The ascending lists of areas that are one by some pairs, in the order of their first ones."""
    firsts = list(range(many))
    for one, other in pairs:
        joined_to, left = firsts[one], firsts[other]
        if left < joined_to:
            joined_to, left = left, joined_to
        firsts = [joined_to if first == left else first for first in firsts]
    return [[area for area in range(many) if firsts[area] == first] for first in range(many) if firsts[first] == first]


def lesser_outage(chart, group):
    """The least outage of some areas; None, without end, is above all numbers."""
    least = None
    for area in group:
        if is_less(chart.outages[area], least):
            least = chart.outages[area]
    return least


def joined_map(chart, groups):
    """The Map in which the areas of each group are one, with the border of its first one."""
    areas = [[place for area in group for place in chart.areas[area]] for group in groups]
    return Map(areas, chart.paths, length=chart.length, borders=[chart.borders[group[0]] for group in groups],
               outages=[lesser_outage(chart, group) for group in groups])


def least_limits(limits, groups):
    """The tuple of the least limits of the groups."""
    return tuple([min([int(limits[area]) for area in group]) for group in groups])


def joined(chart, pair):
    """The Map in which two areas are one, in the place of the first."""
    if not isinstance(chart, Map):
        raise BadPart("chart")
    if not is_pair(chart, pair):
        raise BadPart("pair")
    return joined_map(chart, groups_by(len(chart.areas), [pair]))


def joined_limits(limits, pair):
    """The tuple of the limits when two areas are one."""
    return least_limits(limits, groups_by(len(limits), [pair]))


def can_be_more(chart, limits, pair):
    """Whether more can be paid when two areas are one."""
    check_chart(chart, limits)
    if not is_pair(chart, pair):
        raise BadPart("pair")
    return is_less(most_by_days(chart, limits), most_by_days(joined(chart, pair), joined_limits(limits, pair)))


def is_kept(chart, limits, wish):
    """Whether there is a bound to what can be paid, not above the wish."""
    most = most_by_days(chart, limits)
    return most is not None and most <= wish


def least_joins(chart, limits, wish):
    """The list of the least lists of pairs by which, joined, the wish is kept: shorter ones first, then in order."""
    check_chart(chart, limits)
    check_wish(wish)
    many = len(chart.areas)
    pairs = [(one, other) for one in range(many) for other in range(one + 1, many)]
    # Different lists of pairs may make the same areas one.
    kept = {}
    found = []
    for choice in all_choices(len(pairs)):
        groups = groups_by(many, [pairs[index] for index in choice])
        key = tuple([tuple(group) for group in groups])
        if any([is_part(least, choice) for least in found]):
            continue
        if key not in kept:
            kept[key] = is_kept(joined_map(chart, groups), least_limits(limits, groups), wish)
        if kept[key]:
            found.append(choice)
    return [[pairs[index] for index in choice] for choice in found]


def greatest_outages(chart, limits, wish):
    """For each area (`any`,), (`most`, d) with the greatest outage with which the wish is kept, or (`none`,)."""
    check_chart(chart, limits)
    check_wish(wish)
    return [greatest_outage(chart, limits, wish, area) for area in range(len(chart.areas))]


def greatest_outage(chart, limits, wish, area):
    """What greatest_outages tells of one area."""
    if is_kept_with(chart, limits, wish, area, None):
        return ("any",)
    # With longer outages never less can be paid.
    greatest = -1
    while greatest < TOP_OUTAGE and is_kept_with(chart, limits, wish, area, greatest + 1):
        greatest += 1
    return ("none",) if greatest < 0 else ("most", greatest)


def is_kept_with(chart, limits, wish, area, outage):
    """Whether the wish is kept with another outage of an area."""
    return is_kept(chart.with_outages(with_item(chart.outages, area, outage)), limits, wish)
