"""Codes: rules written as clauses, perhaps with helper signs beside."""

from lastopen.errors import BadClause, Clash, NoClause
from lastopen.literals import (check_count, check_names, full_settings, in_order, is_clause, joined_names,
                               places_of)
from lastopen.rules import Rule
from lastopen.search import Search


class Code:
    """A list of signs, one of helpers, and one of clauses over both."""

    def __init__(self, signs, clauses, helpers=()):
        names = (*signs, *helpers)
        check_names(names)
        places = places_of(names)
        check_clauses(places, clauses)
        self.own_signs = tuple(signs)
        self.own_helpers = tuple(helpers)
        self.places = places
        # a dict keeps the order, leaves out what stood before and tells quickly what is in it
        self.rows = {in_order(places, clause): True for clause in clauses}

    def signs(self):
        """The list of the signs."""
        return list(self.own_signs)

    def helpers(self):
        """The list of the helpers."""
        return list(self.own_helpers)

    def clauses(self):
        """The list of the clauses."""
        return list(self.rows)

    def rule(self):
        """The rule of the signs: what goes with some setting of the helpers."""
        return rule_of(self, self.own_signs)

    def total(self):
        """The rule of signs and helpers together."""
        return rule_of(self, (*self.own_signs, *self.own_helpers))

    def more(self, clauses):
        """The code with further clauses at the end."""
        check_clauses(self.places, clauses)
        return Code(self.own_signs, [*self.rows, *clauses], self.own_helpers)

    def less(self, index):
        """The code without the clause with this index."""
        if not is_index(self, index):
            raise NoClause(index)
        rest = list(self.rows)
        del rest[index]
        return Code(self.own_signs, rest, self.own_helpers)

    def __len__(self):
        return len(self.rows)

    def __contains__(self, thing):
        return is_clause(self.places, thing) and in_order(self.places, thing) in self.rows

    def __add__(self, other):
        check_clash(self, other)
        check_clash(other, self)
        signs = joined_names(self.own_signs, other.own_signs)
        return Code(signs, [*self.rows, *other.rows], [*self.own_helpers, *other.own_helpers])

    def __eq__(self, other):
        if not isinstance(other, Code) or len(self.rows) != len(other.rows):
            return False
        return have_same_names(self, other) and all([clause in self for clause in other.rows])


def check_clauses(places, things):
    """Raises BadClause for the first thing that is no clause of the names at hand."""
    for index, thing in enumerate(things):
        if not is_clause(places, thing):
            raise BadClause(index)


def check_clash(one, other):
    """Raises Clash for the first helper of one that is a name of other."""
    for name in one.own_helpers:
        if name in other.places:
            raise Clash(name)


def have_same_names(one, other):
    """Tells whether two codes have the same signs and the same helpers, each in any order."""
    return (set(one.own_signs) == set(other.own_signs)
            and set(one.own_helpers) == set(other.own_helpers))


def rule_of(code, names):
    """The rule of the first names of a code: allowed is what goes with some setting of the others."""
    check_count(names)
    search = Search(len(code.places) // 2, numbered(code))
    rows = []
    for row in full_settings(names):
        if search.filled([code.places[literal] for literal in row]) is not None:
            rows.append(row)
    return Rule(names, rows)


def numbered(code):
    """The clauses of a code, as lists of the places of their literals."""
    return [[code.places[literal] for literal in clause] for clause in code.rows]


def is_index(code, thing):
    """Tells of any object whether it is the index of a clause; truth values are none."""
    return isinstance(thing, int) and not isinstance(thing, bool) and 0 <= thing < len(code.rows)
