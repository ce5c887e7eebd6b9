"""The worst that can happen: what can be overspent, and what can be paid after a loss."""

from cutofftills.climbs import most_of, town_climb, ways_of


def most_overspent(town):
    """The most that can be overspent, or None if there is no bound."""
    return most_of(town_climb(town, False), town.money)


def worst_run(town):
    """Events behind which the most is overspent and [], or a lead and a ring."""
    return ways_of(town_climb(town, False), town.money)


def most_after_loss(town):
    """The most that can be paid after a loss, or None if there is no bound."""
    return most_of(town_climb(town, True), 0)


def loss_run(town):
    """Events behind which the most is paid after a loss and [], or a lead and a ring."""
    return ways_of(town_climb(town, True), 0)
