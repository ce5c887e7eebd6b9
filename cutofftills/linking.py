"""The least links with which a town keeps a wish."""

from cutofftills.hearing import check_menu, with_link
from cutofftills.limits import keeps_wish

LONGEST_CHOICE = 5


def least_links(town, menu, wish):
    """The list of the least choices of a menu with which the town keeps the wish, fewer ones first."""
    check_menu(town, menu, 1, LONGEST_CHOICE)
    found = []
    for choice in all_choices(len(menu)):
        if not any([is_part(least, choice) for least in found]) and keeps_wish(with_choice(town, menu, choice), wish):
            found.append(choice)
    return found


def all_choices(many):
    """The list of all ascending tuples of indexes below many, fewer ones first, then ascending."""
    found = [()]
    longest = [()]
    for _ in range(many):
        longest = [row + (index,) for row in longest for index in range(many) if len(row) == 0 or row[-1] < index]
        found.extend(longest)
    return found


def is_part(one, other):
    """Whether all indexes of one tuple are in the other one."""
    return all([index in other for index in one])


def with_choice(town, menu, choice):
    """The Town with some of the links of a menu more."""
    for index in choice:
        town = with_link(town, menu[index])
    return town
