"""Ways to write a rule as a code."""

from lastopen.codes import Code
from lastopen.errors import BadCount
from lastopen.literals import check_names, literals_of, opposite


def direct(rule):
    """The code with a clause for each setting that is not allowed, which denies it."""
    return Code(rule.names, [[opposite(literal) for literal in setting] for setting in (~rule).settings()])


def whole(rule):
    """The code of the shortest consequences."""
    return Code(rule.names, rule.shortest())


def rows(rule, helpers):
    """The code with a helper for each allowed setting: one of them is so, and with it the setting's literals."""
    if len(helpers) != len(rule):
        raise BadCount(len(helpers))
    check_names(helpers, rule.names)
    settings = rule.settings()
    clauses = []
    for helper, setting in zip(helpers, settings):
        clauses.extend([["-" + helper, literal] for literal in setting])
    for literal in literals_of(rule.names):
        having = [helper for helper, setting in zip(helpers, settings) if literal in setting]
        clauses.append([opposite(literal), *having])
    clauses.append(list(helpers))
    return Code(rule.names, clauses, helpers)
