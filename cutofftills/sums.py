"""What can be overspent by the sum of the greatest limits of the groups, told without looking at states."""

from cutofftills.errors import BadPart
from cutofftills.words import is_integer, is_limit, is_list, is_word


def groups_of(town):
    """The groups as lists of names, in the order of their first tills."""
    return [town.group(name) for name in town.names() if town.group(name)[0] == name]


def greatest_limit(town, group):
    """The greatest limit of the tills of a group."""
    return max([int(town[name].limit) for name in group])


def group_sum(town):
    """The sum of the greatest limits of the groups."""
    return sum([greatest_limit(town, group) for group in groups_of(town)])


def is_heeding(town):
    """Whether all tills heed."""
    return all([town[name].heeds for name in town.names()])


def is_plain(town):
    """Whether all tills heed, and the card remembers nothing."""
    return is_heeding(town) and town.memory == ("nothing",)


def has_spare(town):
    """Whether the last unit can be spent with a line while every group takes its greatest limit without one."""
    return not all([is_single(group, greatest_limit(town, group)) for group in groups_of(town)])


def is_single(names, limit):
    """Whether a group with this greatest limit is one till that takes something without a line."""
    return len(names) == 1 and limit > 0


def has_money(town):
    """Whether there ever is money on the card."""
    return town.money > 0 or town.tops > 0


def closed_most(town):
    """The most that can be overspent in a plain town; None for other towns."""
    if not is_plain(town):
        return None
    if not has_money(town):
        return 0
    return group_sum(town) if has_spare(town) else group_sum(town) - 1


def closed_loss(town):
    """The most that can be paid after a loss in a plain town; None for other towns."""
    if not is_plain(town):
        return None
    return group_sum(town) if has_money(town) else 0


def least_number(rows):
    """The least number of a sum paper with these rows."""
    total = sum([limit for _, limit in rows])
    return total - 1 if all([is_single(names, limit) for names, limit in rows]) else total


def sum_paper(town):
    """A sum paper with the least number."""
    if not is_heeding(town):
        raise BadPart("heeds")
    rows = [(group, greatest_limit(town, group)) for group in groups_of(town)]
    return "sum", rows, least_number(rows)


def accepts_sum(town, paper):
    """Whether all tills heed and any value is a sum paper."""
    if not is_heeding(town) or not isinstance(paper, tuple) or len(paper) != 3 or not is_word(paper[0], "sum"):
        return False
    rows, number = paper[1:]
    return are_rows(town, rows) and is_integer(number) and number >= least_number(rows)


def are_rows(town, rows):
    """Whether any value is a list with one row for each group."""
    if not is_list(rows) or len(rows) != len(groups_of(town)):
        return False
    told = {}
    for row in rows:
        if not isinstance(row, tuple) or len(row) != 2 or not is_group(town, row[0]):
            return False
        names, limit = row
        first = town.group(names[0])[0]
        if first in told or not is_limit(limit) or limit < greatest_limit(town, names):
            return False
        told[first] = True
    return True


def is_group(town, names):
    """Whether any value is a list of the tills of one group, in any order."""
    if not is_list(names) or len(names) == 0 or not all([name in town for name in names]):
        return False
    group = town.group(names[0])
    return len(names) == len(group) and all([name in names for name in group])
