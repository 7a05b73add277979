"""Papers: what shows that a code sees, so that nobody has to follow or to seek who looks at it."""

from lastopen.codes import numbered
from lastopen.errors import Blind
from lastopen.following import are_drawings, drawings_on, literals_at, places_in, trail_of
from lastopen.literals import in_order, is_clause, is_full, is_list, opposite, places_of
from lastopen.rules import Rule
from lastopen.search import Search
from lastopen.seeing import first_blind, level_names, level_rule


def paper(code, level="forced"):
    """The pair of the full settings that are shown and of the steps, by which each forced literal is drawn."""
    rule = level_rule(code, level)
    blind_at = first_blind(code, rule, level)
    if blind_at is not None:
        setting, literal = blind_at
        raise Blind(setting, literal)
    return (full_settings_of(code, rule), steps_of(code, rule, level))


def full_settings_of(code, rule):
    """For each setting that the rule allows a full one that has its literals and fits all clauses."""
    search = Search(len(code.places) // 2, numbered(code))
    return [tuple(literals_at(code, search.filled(places_in(code, row)))) for row in rule.settings()]


def steps_of(code, rule, level):
    """For each shortest consequence, and each literal to be told, the triple with the drawings that lead to it."""
    trail = trail_of(code)
    steps = []
    for clause in rule.shortest():
        for literal in told_literals(clause, level):
            given = places_in(code, denied_beside(clause, literal))
            trail.lead(given)
            steps.append((clause, literal, up_to(literal, drawings_on(code, trail, given))))
    return steps


def told_literals(clause, level):
    """The literals for which a clause is shown: each of its own, or None where only its dead end counts."""
    if level == "dead" or not clause:
        return [None]
    return list(clause)


def denied_beside(clause, literal):
    """The opposites of all other literals of a clause; of all, if the literal is None."""
    return [opposite(other) for other in clause if other != literal]


def up_to(literal, pairs):
    """The pairs up to the one that draws the literal or tells a dead end."""
    for at, pair in enumerate(pairs):
        if pair[1] == literal or pair[1] is None:
            return pairs[:at + 1]
    return pairs


def is_paper(code, thing, level="forced"):
    """Tells of any object whether it is a paper of this level of the code."""
    names = level_names(code, level)
    if not is_list(thing) or len(thing) != 2 or not is_list(thing[0]) or not is_list(thing[1]):
        return False
    places = places_of(names)
    if not all([fits_all(code, item) for item in thing[0]]):
        return False
    shown = [in_order(places, [literal for literal in item if literal in places]) for item in thing[0]]
    if len(set(shown)) != len(shown) or not all([is_step(code, places, item) for item in thing[1]]):
        return False
    told = {(in_order(places, item[0]), item[1]): True for item in thing[1]}
    # a full setting that is not shown denies one of these clauses whole, so that need not be looked at
    return all([(clause, literal) in told
                for clause in Rule(names, shown).shortest() for literal in told_literals(clause, level)])


def fits_all(code, thing):
    """Tells of any object whether it is a full setting of signs and helpers that fits all clauses."""
    if not is_full(code.places, thing):
        return False
    so = {literal: True for literal in thing}
    return all([any([literal in so for literal in clause]) for clause in code.rows])


def is_step(code, places, thing):
    """Tells of any object whether it is a clause, a literal of it or None, and drawings that lead there."""
    if not is_list(thing) or len(thing) != 3:
        return False
    clause, literal, pairs = thing
    if not is_clause(places, clause):
        return False
    if literal is not None and not (isinstance(literal, str) and literal in clause):
        return False
    if not are_drawings(code, denied_beside(clause, literal), pairs) or not pairs:
        return False
    return pairs[-1][1] is None or pairs[-1][1] == literal
