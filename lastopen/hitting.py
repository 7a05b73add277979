"""Hitting: few numbers, so that of each group of numbers at least one is among them."""

from lastopen.groups import group_of, numbers_of


def first_fewest(groups):
    """The ascending list of as few numbers as possible that hit all groups, none of which is empty.

    Of several such lists it is the first one, their numbers compared one by one.
    """
    found = []
    for part in apart(least_groups(groups)):
        found.extend(first_of_part(part))
    return sorted([int(number) for number in found])


def least_groups(groups):
    """The groups that hold no other one, the small ones ahead: who hits these hits all."""
    least = []
    for group in by_size(groups):
        if not any([other & group == other for other in least]):
            least.append(group)
    return least


def by_size(groups):
    """The groups, those with fewer numbers ahead."""
    lists = [numbers_of(group) for group in groups]
    return [group_of(numbers) for numbers in sorted(lists, key=len)]


def apart(groups):
    """The groups in lists, so that groups of unlike lists have no number in common: each can be hit by itself."""
    parts = []
    for group in groups:
        joined = [group]
        rest = []
        for part in parts:
            if union(part) & group:
                joined = [*part, *joined]
            else:
                rest.append(part)
        parts = [*rest, joined]
    return parts


def union(groups):
    """All numbers of the groups, as a group."""
    whole = 0
    for group in groups:
        whole = whole | group
    return whole


def first_of_part(groups):
    """As first_fewest, for groups that hang together."""
    groups = by_size(groups)
    allowed = union(groups)
    many = many_apart(groups)
    while not can_hit(groups, allowed, many):
        many += 1
    found = []
    for number in numbers_of(allowed):
        if not groups:
            break
        left = [group for group in groups if not group >> number & 1]
        allowed = allowed & ~(1 << number)
        # a list that has this number comes ahead of those that have not
        if can_hit(left, allowed, many - len(found) - 1):
            found.append(number)
            groups = left
    return found


def can_hit(groups, allowed, many):
    """Tells whether so many allowed numbers can hit all groups."""
    groups = [group & allowed for group in groups]
    if not groups:
        return True
    if 0 in groups or many_apart(groups) > many:
        return False
    for number in min([numbers_of(group) for group in groups], key=len):
        if can_hit([group for group in groups if not group >> number & 1], allowed, many - 1):
            return True
        allowed = allowed & ~(1 << number)
        groups = [group & allowed for group in groups]
        if 0 in groups:
            return False
    return False


def many_apart(groups):
    """How many groups there are of which no two have a number in common, as far as they are found one by one."""
    taken = 0
    many = 0
    for group in groups:
        if not group & taken:
            taken = taken | group
            many += 1
    return many
