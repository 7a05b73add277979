"""Rules: which settings of a few signs are allowed."""

from lastopen.errors import BadSetting, NoSign
from lastopen.literals import (check_count, check_names, check_setting, full_settings, in_order, is_full,
                               joined_names, literals_behind, literals_of, name_of, opposite, places_of)


class Rule:
    """A list of signs, and those of their full settings that are allowed."""

    def __init__(self, signs, settings):
        check_names(signs)
        check_count(signs)
        places = places_of(signs)
        for index, thing in enumerate(settings):
            if not is_full(places, thing):
                raise BadSetting(index)
        given = {in_order(places, setting): True for setting in settings}
        self.names = tuple(signs)
        self.places = places
        # a dict keeps the order and tells quickly what is in it
        self.rows = {row: True for row in full_settings(signs) if row in given}

    def signs(self):
        """The list of the signs."""
        return list(self.names)

    def settings(self):
        """The ordered list of the allowed settings."""
        return list(self.rows)

    def forced(self, setting):
        """The further literals that all allowed settings with these ones have; None if there are none."""
        check_setting(self.places, setting)
        fitting = [row for row in self.rows if all([literal in row for literal in setting])]
        if not fitting:
            return None
        common = [literal for literal in fitting[0] if all([literal in row for row in fitting])]
        return [literal for literal in common if literal not in setting]

    def shortest(self):
        """The ordered list of the shortest consequences."""
        return shortest_clauses(self.names, list(self.rows))

    def turned(self, name):
        """The rule with the sides of this sign exchanged."""
        check_sign(self, name)
        return Rule(self.names, [turned_row(row, name) for row in self.rows])

    def __len__(self):
        return len(self.rows)

    def __contains__(self, thing):
        return is_full(self.places, thing) and in_order(self.places, thing) in self.rows

    def __and__(self, other):
        names = joined_names(self.names, other.names)
        check_count(names)
        return Rule(names, [row for row in full_settings(names) if allows(self, row) and allows(other, row)])

    def __or__(self, other):
        names = joined_names(self.names, other.names)
        check_count(names)
        return Rule(names, [row for row in full_settings(names) if allows(self, row) or allows(other, row)])

    def __invert__(self):
        return Rule(self.names, [row for row in full_settings(self.names) if row not in self.rows])

    def __sub__(self, name):
        check_sign(self, name)
        rest = [sign for sign in self.names if sign != name]
        return Rule(rest, [row_without(row, name) for row in self.rows])

    def __le__(self, other):
        return set(self.names) == set(other.names) and all([row in other for row in self.rows])

    def __lt__(self, other):
        return self <= other and len(self.rows) < len(other.rows)

    def __eq__(self, other):
        return isinstance(other, Rule) and self <= other and len(self.rows) == len(other.rows)


def check_sign(rule, name):
    """Raises NoSign for any object that is no sign of the rule."""
    if name not in rule.names:
        raise NoSign(name)


def allows(rule, row):
    """Tells whether what a setting of these and further names says of the rule's signs is allowed."""
    return [literal for literal in row if literal in rule.places] in rule


def turned_row(row, name):
    """The setting with the other side of this name."""
    return [opposite(literal) if name_of(literal) == name else literal for literal in row]


def row_without(row, name):
    """The setting without this name."""
    return [literal for literal in row if name_of(literal) != name]


def shortest_clauses(names, rows):
    """The ordered list of the shortest consequences of the settings."""
    literals = literals_of(names)
    places = places_of(names)
    marks = row_marks(literals, rows)
    found = []
    # the clauses of one length of which no beginning is a consequence, in order: so what is found is ordered, too
    parts = [()]
    while parts:
        longer = []
        for clause in parts:
            if not is_consequence(marks, clause, rows):
                longer.extend([(*clause, literal) for literal in literals_behind(literals, places, clause)])
            elif is_shortest(marks, clause, rows):
                found.append(clause)
        parts = longer
    return found


def row_marks(literals, rows):
    """For each literal a number with the bit k set if it stands in the setting at k."""
    marks = {}
    for literal in literals:
        marks[literal] = sum([1 << k for k, row in enumerate(rows) if literal in row])
    return marks


def is_consequence(marks, clause, rows):
    """Tells whether each of the settings has a literal of the clause."""
    met = 0
    for literal in clause:
        met = met | marks[literal]
    return met == (1 << len(rows)) - 1


def is_shortest(marks, clause, rows):
    """Tells of a consequence whether none of its proper parts is one: those without one literal tell it."""
    shorter = [[literal for literal in clause if literal != left] for left in clause]
    return not any([is_consequence(marks, part, rows) for part in shorter])
