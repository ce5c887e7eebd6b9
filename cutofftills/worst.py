"""The worst that can happen: what can be overspent, and what can be paid after a loss."""

from cutofftills.climbs import Climb, highest_way, rising_ring, top_height


def most_overspent(town):
    """The most that can be overspent, or None if there is no bound."""
    climb = Climb(town, False)
    return None if climb.rising is not None else max(0, top_height(climb) - town.money)


def worst_run(town):
    """Events behind which the most is overspent and [], or a lead and a ring."""
    climb = Climb(town, False)
    if climb.rising is not None:
        return rising_ring(climb)
    if top_height(climb) <= town.money:
        return [], []
    return highest_way(climb), []


def most_after_loss(town):
    """The most that can be paid after a loss, or None if there is no bound."""
    climb = Climb(town, True)
    return None if climb.rising is not None else top_height(climb)


def loss_run(town):
    """Events behind which the most is paid after a loss and [], or a lead and a ring."""
    climb = Climb(town, True)
    if climb.rising is not None:
        return rising_ring(climb)
    return highest_way(climb), []
