"""Forms: the greatest of some terms, each a sum of limits, each taken so many times, less a number."""

from cutofftills.counting import is_at_most
from cutofftills.days import Clocks
from cutofftills.errors import BadForm, BadLimits, BadPart, TooMany
from cutofftills.moves import with_item
from cutofftills.pivots import point_above
from cutofftills.purses import Purse
from cutofftills.reach import Reach
from cutofftills.sorting import in_order
from cutofftills.sums import groups_of, has_money, is_plain
from cutofftills.towns import Town
from cutofftills.words import is_integer, is_list

MOST_LIMITS = 4
MOST_TERMS = 32


def is_whole(value):
    """Whether any value is an integer from 0 on."""
    return is_integer(value) and value >= 0


def is_term(many, value):
    """Whether any value is a term of so many limits."""
    if not isinstance(value, tuple) or len(value) != 2:
        return False
    times, off = value
    if not isinstance(times, tuple) or len(times) != many or not is_whole(off):
        return False
    return all([is_whole(number) for number in times])


def is_form(value, many):
    """Whether any value is a Form of so many limits."""
    return isinstance(value, Form) and value.size == many


def greatest_terms(terms):
    """The ascending list of the terms without those that another one is never below."""
    found = []
    # What is never below a term comes ahead of it: greater times, then less off.
    for times, less in in_order([(times, -off) for times, off in terms])[::-1]:
        if not any([is_at_most(times, other) and off <= -less for other, off in found]):
            found.append((times, -less))
    return found[::-1]


class Form:
    """What some terms tell at limits, the greatest of it and of 0; it never changes."""

    def __init__(self, many, terms):
        if not is_integer(many) or not 1 <= many <= MOST_LIMITS:
            raise BadPart("many")
        if not is_list(terms):
            raise BadForm(None)
        for index, term in enumerate(terms):
            if not is_term(many, term):
                raise BadForm(index)
        kept = greatest_terms(list(terms) + [((0,) * many, 0)])
        if len(kept) > MOST_TERMS:
            raise TooMany(MOST_TERMS)
        self.size = many
        self.terms = tuple(kept)

    def __len__(self):
        return len(self.terms)

    def __call__(self, limits):
        if not is_list(limits) or len(limits) != self.size or not all([is_whole(limit) for limit in limits]):
            raise BadLimits(limits)
        return max([int(told_by(term, limits)) for term in self.terms])

    def __add__(self, other):
        if not is_form(other, self.size):
            raise BadPart("other")
        return Form(self.size, [sum_of_terms(one, two) for one in self.terms for two in other.terms])

    def __or__(self, other):
        if not is_form(other, self.size):
            raise BadPart("other")
        return Form(self.size, self.terms + other.terms)

    def __le__(self, other):
        if not is_form(other, self.size):
            raise BadPart("other")
        return is_never_above(self.terms, other.terms)

    def __eq__(self, other):
        return (isinstance(other, Form) and self.size == other.size
                and is_never_above(self.terms, other.terms) and is_never_above(other.terms, self.terms))

    def needed(self):
        """An equal form of terms of it of which none, but that of 0, can be left out."""
        zero = ((0,) * self.size, 0)
        kept = list(self.terms)
        for term in self.terms:
            others = [one for one in kept if one != term]
            if is_never_above([term], others + [zero]):
                kept = others
        return Form(self.size, kept)


def told_by(term, limits):
    """What a term tells at some limits."""
    times, off = term
    return sum([number * limit for number, limit in zip(times, limits)]) - off


def sum_of_terms(one, other):
    """The term that tells the sum of two terms."""
    return tuple([number + more for number, more in zip(one[0], other[0])]), one[1] + other[1]


def is_never_above(terms, others):
    """Whether at no limits one of some terms tells more than all others."""
    return all([point_above(term, others) is None for term in terms])


def parting_limits(one, other):
    """Limits, as a tuple (numbers, over), at which one form tells more than the other one, or None."""
    if not isinstance(one, Form):
        raise BadPart("one")
    if not is_form(other, one.size):
        raise BadPart("other")
    points = [point_above(term, other.terms) for term in one.terms]
    found = [point for point in points if point is not None]
    return found[0] if found else None


def group_times(town, many):
    """The list of the times by which the greatest limits of the groups are added up, each so many times."""
    places = {name: index for index, name in enumerate(town.names())}
    rows = [(0,) * len(town)]
    for group in groups_of(town):
        rows = [with_item(row, places[name], many) for row in rows for name in group]
    return rows


def spent_form(town, rows):
    """The form of what can be overspent in a plain town, if the limits so many times can be with a spare."""
    if not has_money(town):
        return Form(len(town), [])
    if len(groups_of(town)) < len(town):
        return Form(len(town), [(times, 0) for times in rows])
    # Without links there is a spare exactly if some limit is 0.
    terms = [(times, 1) for times in rows]
    terms.extend([(with_item(times, at, 0), 0) for times in rows for at in range(len(town))])
    return Form(len(town), terms)


def form_of(town):
    """The form of what can be overspent in a plain town; None for other towns."""
    if not isinstance(town, Town):
        raise BadPart("town")
    return spent_form(town, group_times(town, 1)) if is_plain(town) else None


def loss_form(town):
    """The form of what can be paid after a loss in a plain town; None for other towns."""
    if not isinstance(town, Town):
        raise BadPart("town")
    if not is_plain(town):
        return None
    return Form(len(town), [(times, 0) for times in group_times(town, 1)] if has_money(town) else [])


def purse_form(purse):
    """The form of what can be overspent with a purse in a plain town; None for other towns."""
    if not isinstance(purse, Purse):
        raise BadPart("purse")
    return spent_form(purse.town, group_times(purse.town, purse.cards)) if is_plain(purse.town) else None


def clock_form(clocks):
    """The form of what can be overspent with so many days in a plain town; None for other towns and days None."""
    if not isinstance(clocks, Clocks):
        raise BadPart("clocks")
    if clocks.days is None or not is_plain(clocks.town):
        return None
    rows = [with_item(times, at, times[at] + clocks.days)
            for times in group_times(clocks.town, 1) for at in range(len(clocks.town))]
    return spent_form(clocks.town, rows)


def reach_form(reach):
    """The form of what can be paid by limits for a day; None if a greatest count of the reach has no bound."""
    if not isinstance(reach, Reach):
        raise BadPart("reach")
    if any([days is None for peak in reach.peaks for days in peak]):
        return None
    return Form(reach.size, [(peak, 0) for peak in reach.peaks])
