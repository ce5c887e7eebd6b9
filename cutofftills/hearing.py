"""Links by which tills hear from one another, and how much less can be overspent with them."""

from cutofftills.errors import BadMenu
from cutofftills.towns import is_link
from cutofftills.words import is_list
from cutofftills.worst import most_overspent

LONGEST_MENU = 6


def check_menu(town, menu, fewest, most):
    """Raises BadMenu for any value that is no list of so many unlike links that the town may have and has not."""
    if not is_list(menu) or not fewest <= len(menu) <= most:
        raise BadMenu(None)
    names = town.names()
    earlier = {}
    for index, link in enumerate(menu):
        if not is_link(names, link) or link in town.links or link in earlier:
            raise BadMenu(index)
        earlier[link] = True


def with_link(town, link):
    """The Town with one link more."""
    check_menu(town, [link], 1, 1)
    return town.with_links(town.links + (link,))


def is_less(most, other):
    """Whether the first most is below the other one; None, no bound, is above all numbers."""
    return most is not None and (other is None or most < other)


def best_link(town, menu, indexes):
    """The first of some links of a menu with which the most is least, with that most, or None if there are none."""
    best = None
    for index in indexes:
        most = most_overspent(with_link(town, menu[index]))
        if best is None or is_less(most, best[1]):
            best = (index, most)
    return best


def first_link(town, menu):
    """The tuple of the link of the menu with which least can be overspent, and of that most, or None."""
    check_menu(town, menu, 0, LONGEST_MENU)
    return best_link(town, menu, list(range(len(menu))))


def link_row(town, menu):
    """The list of such tuples, as one link after the other is added, as long as the most falls."""
    check_menu(town, menu, 0, LONGEST_MENU)
    lacking = list(range(len(menu)))
    most = most_overspent(town)
    rows = []
    best = best_link(town, menu, lacking)
    while best is not None and is_less(best[1], most):
        rows.append(best)
        at, most = best
        town = with_link(town, menu[at])
        lacking.remove(at)
        best = best_link(town, menu, lacking)
    return rows
