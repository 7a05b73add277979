"""Joins of clauses, over numbers.

Literals are numbers, as in a Trail, and clauses groups of them.
"""

from lastopen.groups import group_of, numbers_of


def opposites(group):
    """The group of the opposites."""
    return group_of([number ^ 1 for number in numbers_of(group)])


def group_joins(groups, literal):
    """The groups without a literal and its opposite, then the joins of those with the one and those with the other."""
    found = {group: True for group in groups if not group >> (literal & -2) & 3}
    against = without(groups, literal ^ 1)
    for one in without(groups, literal):
        barred = opposites(one)
        # no name may stand in a join with both sides
        for other in against:
            if not other & barred:
                found[one | other] = True
    return list(found)


def joins_with_shared(groups, literal):
    """The joins whose two clauses share literals, each as a pair with the group of these."""
    found = {}
    against = without(groups, literal ^ 1)
    for one in without(groups, literal):
        barred = opposites(one)
        for other in against:
            if other & one and not other & barred:
                found[(one | other, one & other)] = True
    return list(found)


def without(groups, literal):
    """The groups that have a literal, each without it."""
    return [group ^ (1 << literal) for group in groups if group >> literal & 1]
