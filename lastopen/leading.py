"""Leading somebody through a code, sign by sign."""

from lastopen.codes import numbered
from lastopen.errors import BadLiteral, BadSetting, Dead, IsSet, NotDead, NotDrawn, NothingToUndo
from lastopen.following import literals_at, trail_of
from lastopen.literals import check_setting, name_of, places_of
from lastopen.search import Search
from lastopen.trails import SO, UNSET


class Led:
    """A code, the literals of signs that were put, and what is drawn by them."""

    def __init__(self, code):
        self.own_code = code
        self.trail = trail_of(code)

    def put(self, literal):
        """Puts a literal; returns the literals that come to be drawn by it, or None at a dead end."""
        if self.is_dead():
            raise Dead()
        if place_of(self.own_code, literal) >= 2 * len(self.own_code.own_signs):
            raise BadLiteral(literal)
        place = self.own_code.places[literal]
        if self.trail.sides[place] != UNSET:
            raise IsSet(name_of(literal))
        before = len(self.trail.steps)
        self.trail.put(place)
        if self.is_dead():
            return None
        return ascending(self.own_code, self.trail.steps[before + 1:])

    def undo(self):
        """Takes the last choice back, with what was drawn by it, and returns it."""
        if not self.trail.chosen:
            raise NothingToUndo()
        last = self.choices()[-1]
        self.trail.go_back(len(self.trail.chosen) - 1)
        return last

    def choices(self):
        """The list of the literals that were put, in order."""
        return literals_at(self.own_code, self.trail.chosen)

    def is_dead(self):
        """Tells whether there is a dead end."""
        return self.trail.clash is not None

    def drawn(self):
        """The ascending list of the drawn literals; None at a dead end."""
        if self.is_dead():
            return None
        put = {place: True for place in self.trail.chosen}
        return ascending(self.own_code, [place for place in self.trail.steps if place not in put])

    def why(self, literal):
        """Choices of which none can be left out by which the literal is drawn, from the first one on."""
        if self.is_dead():
            raise Dead()
        place = place_of(self.own_code, literal)
        if place >= len(self.trail.sides) or self.trail.sides[place] != SO or place in self.trail.chosen:
            raise NotDrawn(literal)
        return literals_at(self.own_code, choices_that_count(self.trail, [place]))

    def blame(self):
        """Choices of which none can be left out that lead to the dead end, from the first one on."""
        if not self.is_dead():
            raise NotDead()
        return literals_at(self.own_code, choices_that_count(self.trail, []))

    def copy(self):
        """An independent copy."""
        twin = Led(self.own_code)
        twin.trail.lead(list(self.trail.chosen))
        return twin

    def __len__(self):
        return len(self.trail.chosen)

    def __contains__(self, thing):
        place = place_of(self.own_code, thing)
        if place >= len(self.trail.sides):
            return False
        if self.trail.clash is not None:
            return place in self.trail.chosen
        return self.trail.sides[place] == SO

    def __iadd__(self, other):
        self.put(other)
        return self

    def __eq__(self, other):
        if not isinstance(other, Led) or self.own_code != other.own_code:
            return False
        return self.choices() == other.choices()


def place_of(code, thing):
    """The place of a literal; for any object that is none, a number behind all places."""
    if isinstance(thing, str) and thing in code.places:
        return code.places[thing]
    return len(code.places)


def ascending(code, places):
    """The literals at these places, ascending."""
    return literals_at(code, sorted([int(place) for place in places]))


def choices_that_count(trail, wanted):
    """The choices without those that are not needed for a wanted literal or a dead end; the trail stays."""
    chosen = list(trail.chosen)
    kept = list(chosen)
    for choice in chosen:
        rest = [other for other in kept if other != choice]
        if not trail.lead(rest) or any([trail.sides[place] == SO for place in wanted]):
            kept = rest
    trail.lead(chosen)
    return kept


def solved(code, order):
    """A setting of the signs that fits all clauses, found by putting the literals in order, with the turns it took."""
    check_order(code, order)
    trail = trail_of(code)
    search = Search(len(code.places) // 2, numbered(code))
    places = [code.places[literal] for literal in order]
    # for each choice how many literals of the order were looked at, and whether it is a turned one
    looked_at = []
    turned = []
    turns = 0
    at = 0
    while True:
        if at == len(places) and trail.clash is None and fits_helpers(trail, search, places):
            return ("found", setting_on(code, trail), turns)
        if at == len(places) or trail.clash is not None:
            while turned and turned[-1]:
                looked_at.pop()
                turned.pop()
            if not turned:
                return ("none", turns)
            literal = trail.chosen[len(turned) - 1]
            trail.go_back(len(turned) - 1)
            trail.put(literal ^ 1)
            turned[-1] = True
            turns += 1
            at = looked_at[-1]
        elif trail.sides[places[at]] != UNSET:
            at += 1
        else:
            trail.put(places[at])
            at += 1
            looked_at.append(at)
            turned.append(False)


def check_order(code, order):
    """Raises BadSetting for an object that is no list with one literal for each sign."""
    check_setting(places_of(code.own_signs), order)
    if len(order) < len(code.own_signs):
        raise BadSetting(len(order))


def fits_helpers(trail, search, places):
    """Tells whether the sides of all signs go with a setting of the helpers."""
    return search.filled([place if trail.sides[place] == SO else place ^ 1 for place in places]) is not None


def setting_on(code, trail):
    """The setting of the signs on a trail, as a tuple of ascending literals."""
    return tuple([literal for literal in places_of(code.own_signs) if trail.sides[code.places[literal]] == SO])
