"""Orders: which of two codes finds more, and which clauses could be left out without anything being lost."""

from lastopen.codes import Code, numbered
from lastopen.errors import UnlikeSigns
from lastopen.following import places_in, trail_of
from lastopen.literals import check_count, half_filled_in_order, literals_of
from lastopen.trails import DENIED, SO, UNSET, Trail


class Thinned(Trail):
    """A trail whose clauses can be left out."""

    def leave_out(self, index):
        """Goes on without this clause; nothing is put then."""
        self.go_back(0)
        clause = self.held[index]
        if len(clause) > 1:
            self.watchers[clause[0]].remove(index)
            self.watchers[clause[1]].remove(index)
        else:
            self.short.remove(index)
        if self.is_used(index):
            self.start_again()

    def put_back(self, index):
        """Goes on with the clause that was left out last; nothing is put then."""
        self.go_back(0)
        clause = self.held[index]
        if len(clause) > 1:
            # the literals that it watched serve as before, as nothing else was left out or put back
            self.watch(index)
        else:
            self.short.append(index)
        if self.fires(index):
            self.start_again()

    def is_used(self, index):
        """Tells whether the clause drew a literal that is so, or is the one that is denied whole."""
        return self.clash == index or any([self.sides[literal] == SO and self.reasons[literal // 2] == index
                                           for literal in self.held[index]])

    def fires(self, index):
        """Tells whether the clause draws a literal or is denied whole, as things are."""
        left = [literal for literal in self.held[index] if self.sides[literal] != DENIED]
        return not left or (len(left) == 1 and self.sides[left[0]] == UNSET)

    def start_again(self):
        """Forgets what was drawn from nothing, and draws again."""
        for literal in self.steps:
            self.sides[literal] = UNSET
            self.sides[literal ^ 1] = UNSET
        self.steps = []
        self.followed = 0
        self.clash = None
        self.draw_from_nothing()

    def finds(self, clause):
        """Tells whether from the opposites of all others each literal of a clause is drawn, or a dead end is met."""
        if not clause:
            return not self.lead([])
        for literal in clause:
            if self.lead([other ^ 1 for other in clause if other != literal]) and self.sides[literal] != SO:
                return False
        return True


def outdone(one, other):
    """The first setting of the signs at which other finds more than one, with what it finds; None if there is none."""
    if set(one.own_signs) != set(other.own_signs):
        raise UnlikeSigns()
    check_count(one.own_signs)
    literals = literals_of(one.own_signs)
    first = trail_of(one)
    second = trail_of(other)
    for setting in half_filled_in_order(one.own_signs):
        if not first.lead(places_in(one, setting)):
            continue
        if not second.lead(places_in(other, setting)):
            return (setting, None)
        for literal in literals:
            if second.sides[other.places[literal]] == SO and first.sides[one.places[literal]] != SO:
                return (setting, literal)
    return None


def needless(code):
    """The ascending list of the indices of the clauses without which, each alone, as much is found."""
    trail = Thinned(len(code.places) // 2, numbered(code))
    found = []
    for index, clause in enumerate(numbered(code)):
        trail.leave_out(index)
        if trail.finds(clause):
            found.append(index)
        trail.put_back(index)
    return found


def trimmed(code):
    """The code without the clauses that are needless in what is still there, from the first one on."""
    trail = Thinned(len(code.places) // 2, numbered(code))
    kept = []
    for index, clause in enumerate(numbered(code)):
        trail.leave_out(index)
        if not trail.finds(clause):
            trail.put_back(index)
            kept.append(index)
    clauses = code.clauses()
    return Code(code.own_signs, [clauses[index] for index in kept], code.own_helpers)
