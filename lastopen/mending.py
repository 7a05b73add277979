"""Mending: the fewest clauses by which a code comes to see."""

from lastopen.codes import Code
from lastopen.errors import BadLevel
from lastopen.following import places_in, trail_of
from lastopen.groups import group_of
from lastopen.hitting import first_fewest
from lastopen.literals import half_filled, opposite
from lastopen.orders import needless
from lastopen.seeing import level_rule, missed_at, telling_settings
from lastopen.trails import SO
from lastopen.ways import whole

MENDED = ("dead", "forced")


def fewest(code, level="forced"):
    """As few shortest consequences as possible with which the code sees, in their order."""
    if level not in MENDED:
        raise BadLevel(level)
    return fewest_for(code, level_rule(code, level), level)


def needed(rule):
    """The ordered list of the shortest consequences that are not needless among all of them."""
    code = whole(rule)
    left_out = {index: True for index in needless(code)}
    return [clause for index, clause in enumerate(code.rows) if index not in left_out]


def least_code(rule):
    """The code without helpers of as few shortest consequences as possible that has this rule and is "forced"."""
    return Code(rule.names, fewest_for(Code(rule.names, []), rule, "forced"))


def fewest_for(code, rule, level):
    """As few shortest consequences of the rule as possible with which all is found that the rule tells.

    Following ends at settings from which nothing more is drawn. Where it must not end, at least one of the clauses
    that would go on from there is needed, and that is enough: from each setting following goes on until it ends.
    """
    clauses = rule.shortest()
    groups = {}
    for setting in ends_of(code):
        if is_missed(rule, level, setting):
            groups[group_of([index for index, clause in enumerate(clauses) if goes_on(clause, setting)])] = True
    return [clauses[index] for index in first_fewest(list(groups))]


def ends_of(code):
    """The half-filled settings of the signs at which following meets no dead end and draws no sign."""
    trail = trail_of(code)
    found = []
    for setting in half_filled(code.own_signs):
        if trail.lead(places_in(code, setting)):
            drawn = [name for name in code.own_signs
                     if SO in (trail.sides[code.places[name]], trail.sides[code.places["-" + name]])]
            if len(drawn) == len(setting):
                found.append(setting)
    return found


def is_missed(rule, level, setting):
    """Tells whether there is a dead end at a setting, or, if the level asks for it, a forced literal."""
    forced = rule.forced(setting)
    return forced is None or (level != "dead" and len(forced) > 0)


def goes_on(clause, setting):
    """Tells whether a clause draws a literal at this setting or is denied whole."""
    left = [literal for literal in clause if opposite(literal) not in setting]
    return not left or (len(left) == 1 and left[0] not in setting)


def grown(code):
    """The code with a further clause for each first blind setting, as long as there is one."""
    rule = level_rule(code, "forced")
    trail = trail_of(code)
    # what is not blind stays so with further clauses, so the settings need be gone through only once
    for setting in telling_settings(code, rule, "forced"):
        missed = missed_at(code, trail, rule, "forced", setting)
        while missed:
            clause = [opposite(literal) for literal in setting]
            if missed[0] is not None:
                clause.append(missed[0])
            code = code.more([clause])
            trail = trail_of(code)
            missed = missed_at(code, trail, rule, "forced", setting)
    return code
