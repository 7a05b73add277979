"""Webs: codes joined like a tree, so that what holds in all of them is found part by part."""

from lastopen.codes import Code
from lastopen.errors import BadCode, Clash, NotTree
from lastopen.following import trail_of
from lastopen.literals import check_count, check_setting, in_order, is_list, joined_names, opposite, places_of
from lastopen.rules import Rule
from lastopen.seeing import first_blind
from lastopen.trails import SO


class Web:
    """A list of codes, each of which has at most one sign in common with what hangs together ahead of it."""

    def __init__(self, codes):
        check_codes(codes)
        check_names_of(codes)
        self.own_codes = tuple(codes)
        self.joined = joined_code(codes)
        self.sign_places = places_of(self.joined.own_signs)
        # the rules of the codes, once they were asked for
        self.known_rules = []

    def codes(self):
        """The list of the codes."""
        return list(self.own_codes)

    def code(self):
        """The joined code."""
        return self.joined

    def forced(self, setting):
        """The further literals of signs that are so wherever all codes allow it; None if they never do."""
        check_setting(self.sign_places, setting)
        barred = barred_literals(self.settings_inside(), setting)
        if barred is None:
            return None
        return [literal for literal in self.sign_places if opposite(literal) in barred and literal not in setting]

    def blind(self):
        """A setting at which following misses something, and the literal, or None for a dead end; None if it sees."""
        trail = trail_of(self.joined)
        if not trail.lead([]):
            return None
        forced = self.forced([])
        if forced is None:
            return ((), None)
        for literal in forced:
            if trail.sides[self.joined.places[literal]] != SO:
                return ((), literal)
        # what hangs on a code lets each sign of it that is not forced have both sides
        for code, rows in zip(self.own_codes, self.settings_inside()):
            found = blind_with(code, rows, forced)
            if found is not None:
                setting, literal = found
                return (in_order(self.sign_places, setting), literal)
        return None

    def sees(self):
        """Tells whether following finds all, at each half-filled setting of the signs."""
        return self.blind() is None

    def settings_inside(self):
        """For each code the list of the settings that its rule allows."""
        if not self.known_rules:
            self.known_rules = [code.rule() for code in self.own_codes]
        return [rule.settings() for rule in self.known_rules]

    def __len__(self):
        return len(self.own_codes)

    def __eq__(self, other):
        return isinstance(other, Web) and self.own_codes == other.own_codes


def check_codes(codes):
    """Raises BadCode for what is no list of codes, at least one."""
    if not is_list(codes) or not codes:
        raise BadCode(0)
    for index, code in enumerate(codes):
        if not isinstance(code, Code):
            raise BadCode(index)


def check_names_of(codes):
    """Raises TooMany, Clash or NotTree for the first code that does not fit to those ahead."""
    helpers = {}
    # for each sign so far a number: those that hang together have the same
    numbers = {}
    for index, code in enumerate(codes):
        check_count(code.own_signs)
        for name in code.own_helpers:
            if name in helpers or name in numbers:
                raise Clash(name)
        for name in code.own_signs:
            if name in helpers:
                raise Clash(name)
        met = {}
        for name in code.own_signs:
            if name in numbers:
                if numbers[name] in met:
                    raise NotTree(index)
                met[numbers[name]] = True
        numbers = {name: index if number in met else number for name, number in numbers.items()}
        for name in code.own_signs:
            numbers[name] = index
        for name in code.own_helpers:
            helpers[name] = True


def joined_code(codes):
    """All codes joined to one, from the first one on."""
    signs = []
    helpers = []
    clauses = []
    for code in codes:
        signs = joined_names(signs, code.own_signs)
        helpers.extend(code.own_helpers)
        clauses.extend(code.clauses())
    return Code(signs, clauses, helpers)


def barred_literals(tables, setting):
    """The literals that stand in no setting that all codes allow, as keys; None if there is no such setting.

    The tables hold the settings that each code allows. A literal is barred if it stands in none of a code's settings
    without barred literals. As the codes hang together like a tree, nothing else is barred by all of them.
    """
    barred = {opposite(literal): True for literal in setting}
    many = -1
    while len(barred) > many:
        many = len(barred)
        left = []
        for rows in tables:
            fitting = [row for row in rows if not any([literal in barred for literal in row])]
            if not fitting:
                return None
            seen = {literal: True for row in fitting for literal in row}
            for literal in seen:
                if opposite(literal) not in seen:
                    barred[opposite(literal)] = True
            left.append(fitting)
        tables = left
    return barred


def blind_with(code, rows, forced):
    """What blind tells of a code whose allowed settings are known, with those forced literals that it has."""
    own = [literal for literal in forced if literal in code.places]
    allowed = [row for row in rows if all([literal in row for literal in own])]
    return first_blind(code.more([[literal] for literal in own]), Rule(code.own_signs, allowed), "forced")
