"""Seeing: whether following finds what all clauses together tell, at all half-filled settings."""

from lastopen.codes import rule_of
from lastopen.errors import BadLevel
from lastopen.following import places_in, trail_of
from lastopen.literals import check_count, half_filled, opposite

LEVELS = ("dead", "forced", "all")
# more than the literals of as many signs as can be looked at
BASE = 16


def blind(code, level="forced"):
    """The first blind setting and the first literal that is not drawn there; None if no setting is blind."""
    return first_blind(code, level_rule(code, level), level)


def sees(code, level="forced"):
    """Tells whether no half-filled setting is blind."""
    return blind(code, level) is None


def blind_count(code, level="forced"):
    """How many half-filled settings are blind."""
    rule = level_rule(code, level)
    trail = trail_of(code)
    return len([row for row in half_filled(rule.names) if missed_at(code, trail, rule, level, row)])


def level_names(code, level):
    """The names that are looked at in this level."""
    if level not in LEVELS:
        raise BadLevel(level)
    names = code.own_signs
    if level == "all":
        names = (*code.own_signs, *code.own_helpers)
    check_count(names)
    return names


def level_rule(code, level):
    """The rule that is looked at in this level."""
    return rule_of(code, level_names(code, level))


def first_blind(code, rule, level):
    """What blind tells of a code whose rule in this level is known."""
    trail = trail_of(code)
    for setting in telling_settings(code, rule, level):
        missed = missed_at(code, trail, rule, level, setting)
        if missed:
            return (setting, missed[0])
    return None


def telling_settings(code, rule, level):
    """The settings among which the first blind one is, if there is one, in order.

    They are those of the opposites of a shortest consequence, but for one literal if it is to be drawn: with fewer
    literals nothing would follow from this clause, and what more of them tell comes from these.
    """
    by_rank = {}
    for clause in rule.shortest():
        denied = [opposite(literal) for literal in clause]
        if level == "dead" or not clause:
            parts = [denied]
        else:
            parts = [denied[:at] + denied[at + 1:] for at in range(len(denied))]
        for part in parts:
            by_rank[rank_of(places_in(code, part))] = tuple(part)
    return [by_rank[rank] for rank in sorted([int(rank) for rank in by_rank])]


def rank_of(places):
    """A number that stands for a list of ascending literals in the order of lists."""
    rank = len(places)
    for place in places:
        rank = rank * BASE + place
    return rank


def missed_at(code, trail, rule, level, setting):
    """The literals that are forced at a setting, but not drawn; [None] for a dead end that is not met."""
    if not trail.lead(places_in(code, setting)):
        return []
    forced = rule.forced(setting)
    if forced is None:
        return [None]
    if level == "dead":
        return []
    so = {place: True for place in trail.steps}
    return [literal for literal in forced if code.places[literal] not in so]
