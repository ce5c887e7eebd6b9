"""Purses: towns in which one or two cards pay from the same money."""

from cutofftills.climbs import climb_from, most_of, play_through, ways_of
from cutofftills.errors import BadEvent, BadPart, BadTown
from cutofftills.events import UNITS, is_event
from cutofftills.layouts import Layout
from cutofftills.moves import behind_cut, behind_payment, can_follow, cut_to_tops, with_group, with_item
from cutofftills.sums import group_sum, has_money, has_spare, is_plain
from cutofftills.tills import Till
from cutofftills.towns import EVEN_NAMES, Town
from cutofftills.words import is_integer, is_integer_to, is_limit, is_list

MOST_CARDS = 2
MOST_GIFT_TILLS = 3


def check_cards(cards):
    """Raises BadPart for any value that is no number of cards."""
    if not is_integer(cards) or not 1 <= cards <= MOST_CARDS:
        raise BadPart("cards")


class Purse:
    """A town with one or two cards of one purse; it never changes."""

    def __init__(self, town, cards):
        if not isinstance(town, Town):
            raise BadTown(town)
        check_cards(cards)
        self.town = town
        self.cards = cards
        self._layout = Layout(town)

    def __eq__(self, other):
        return isinstance(other, Purse) and self.town == other.town and self.cards == other.cards

    def all_events(self):
        """All events: cuts, lines, payments by cards, top-ups, losses."""
        names = self.town.names()
        cards = list(range(self.cards))
        events = [("cut", name) for name in names]
        events.extend([("line", name) for name in names])
        events.extend([("pay", card, name, units) for card in cards for name in names for units in UNITS])
        events.extend([("top", units) for units in UNITS])
        events.extend([("lose", card) for card in cards])
        return events

    def first(self):
        """The state at the beginning: (lines, cards, left, tops), a tuple (untold, heard, remembered, lost) a card."""
        many = len(self.town)
        card = ((0,) * many, (False,) * many, 0, False)
        return (True,) * many, (card,) * self.cards, self.town.money, self.town.tops

    def choices(self, state):
        """The events that can be behind a state."""
        return [event for event in self.all_events() if can_happen(self._layout, state, event)]

    def after(self, state, event):
        """The state behind an event, and its word."""
        row = purse_step(self, state, event)
        if row is None:
            raise BadEvent(event)
        return row[0], row[1]

    def most(self):
        """The most that can be overspent, or None if there is no bound."""
        return most_of(purse_climb(self), self.town.money)

    def most_run(self):
        """Events behind which the most is overspent and [], or a lead and a ring."""
        return ways_of(purse_climb(self), self.town.money)

    def play(self, events):
        """The state behind a list of events from the beginning, their words, and what is overspent."""
        state, words, paid = play_through(self.first(), events, lambda here, event: purse_step(self, here, event))
        return state, words, max(0, paid - self.town.money)


def is_purse_event(purse, value):
    """Whether any value is an event of a purse."""
    if not isinstance(value, tuple) or len(value) == 0 or not isinstance(value[0], str):
        return False
    if value[0] == "pay":
        return len(value) == 4 and is_card(purse, value[1]) and is_event(purse.town, ("pay", value[2], value[3]))
    if value[0] == "lose":
        return len(value) == 2 and is_card(purse, value[1])
    return value[0] in ("cut", "line", "top") and is_event(purse.town, value)


def is_card(purse, value):
    """Whether any value is the index of a card."""
    return is_integer_to(value, purse.cards - 1)


def town_state(state, at):
    """The state of a town that has only one of the cards."""
    lines, cards, left, tops = state
    untold, heard, remembered, lost = cards[at]
    return lines, untold, heard, remembered, left, lost, tops


def can_happen(layout, state, event):
    """Whether an event of the purse can be behind a state."""
    if event[0] == "lose":
        return not state[1][event[1]][3]
    return event[0] == "pay" or can_follow(layout, town_state(state, 0), event)


def purse_moved(layout, state, event):
    """The state behind an event that can be, and its word."""
    if event[0] == "pay":
        return behind_card_payment(layout, state, event)
    if event[0] == "cut":
        return behind_purse_cut(layout, state, layout.indexes[event[1]]), "done"
    if event[0] == "line":
        return behind_purse_line(layout, state, layout.indexes[event[1]]), "done"
    lines, cards, left, tops = state
    if event[0] == "top":
        return (lines, cards, left + event[1], tops - event[1]), "done"
    untold, heard, remembered, _ = cards[event[1]]
    cards = with_item(cards, event[1], (untold, heard, remembered, True))
    # Somebody must be there to top up.
    tops = 0 if all([lost for _, _, _, lost in cards]) else tops
    return (lines, cards, cut_to_tops(left, tops), tops), "done"


def behind_card_payment(layout, state, event):
    """The state behind a payment by a card, and its word."""
    _, card, name, units = event
    behind, word = behind_payment(layout, town_state(state, card), layout.indexes[name], units)
    lines, untold, heard, remembered, left, lost, tops = behind
    return (lines, with_item(state[1], card, (untold, heard, remembered, lost)), left, tops), word


def behind_purse_cut(layout, state, at):
    """The state behind the cut of a till."""
    behind = [behind_cut(layout, town_state(state, card), at) for card in range(len(state[1]))]
    cards = tuple([(untold, heard, remembered, lost) for _, untold, heard, remembered, _, lost, _ in behind])
    return behind[0][0], cards, state[2], state[3]


def behind_purse_line(layout, state, at):
    """The state behind the line that a till gets back: it tells what all cards paid there."""
    lines, cards, left, tops = state
    left = cut_to_tops(left - sum([untold[at] for untold, _, _, _ in cards]), tops)
    cards = tuple([(with_item(untold, at, 0), with_group(heard, layout.groups[at], False), remembered, lost)
                   for untold, heard, remembered, lost in cards])
    return with_item(lines, at, True), cards, left, tops


def purse_gain(event, word):
    """The units that are paid by an event, less those that are topped up."""
    if event[0] == "top":
        return -event[1]
    return event[3] if word == "taken" else 0


def purse_step(purse, state, event):
    """The state behind an event, its word and its weight; None for any value that is no event that can be."""
    if not is_purse_event(purse, event) or not can_happen(purse._layout, state, event):
        return None
    behind, word = purse_moved(purse._layout, state, event)
    return behind, word, purse_gain(event, word)


def purse_climb(purse):
    """The Climb of the states that are reached with a purse."""
    return climb_from(purse.first(), purse.all_events(), lambda here, event: purse_step(purse, here, event))


def shared_sum(purse):
    """The sum over the groups of the greatest limit in each, for each card."""
    return group_sum(purse.town) * purse.cards


def closed_shared(purse):
    """The most that can be overspent with a purse in a plain town; None for other towns."""
    if not is_plain(purse.town):
        return None
    if not has_money(purse.town):
        return 0
    return shared_sum(purse) if has_spare(purse.town) else shared_sum(purse) - 1


def gift(limits, money, *, cards=1):
    """The Purse of a town of tills a, b and so on with these limits and this money, without tops."""
    if not is_list(limits) or not 1 <= len(limits) <= MOST_GIFT_TILLS:
        raise BadPart("limits")
    if not all([is_limit(limit) for limit in limits]):
        raise BadPart("limits")
    tills = [Till(name, limit) for name, limit in zip(EVEN_NAMES[:len(limits)], limits)]
    return Purse(Town(tills, money=money), cards)
