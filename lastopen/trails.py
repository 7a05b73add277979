"""Following, over numbers: what single clauses draw from some literals.

Literals are numbers here, their places: 2 * k and 2 * k + 1 for the name at k, so `literal ^ 1` is the opposite.
"""

UNSET = 0
SO = 1
DENIED = 2


class Trail:
    """The clauses of some names, and the literals that are so for the time being, in the order in which they came.

    Layer 0 holds what is drawn from nothing, each further layer a literal that was put and what is drawn by it.
    """

    def __init__(self, many, clauses):
        self.sides = [UNSET] * (2 * many)
        # the order within these lists changes: a clause is looked at again only if one of its two first literals
        # comes to be denied
        self.held = [list(clause) for clause in clauses]
        self.watchers = [[] for literal in range(2 * many)]
        # the indices of the clauses with one literal or none
        self.short = [index for index, clause in enumerate(self.held) if len(clause) < 2]
        self.steps = []
        self.followed = 0
        self.chosen = []
        self.starts = []
        self.layers = [0] * many
        self.reasons = [None] * many
        # the index of a clause that is denied whole
        self.clash = None
        for index, clause in enumerate(self.held):
            if len(clause) > 1:
                self.watch(index)
        self.draw_from_nothing()

    def draw_from_nothing(self):
        """Fills layer 0; nothing is so yet."""
        for index in self.short:
            clause = self.held[index]
            if not clause or self.sides[clause[0]] == DENIED:
                self.clash = index
            elif self.sides[clause[0]] == UNSET:
                self.set_so(clause[0], index)
        self.follow_on()

    def watch(self, index):
        """Has a clause looked at when one of its two first literals comes to be denied."""
        self.watchers[self.held[index][0]].append(index)
        self.watchers[self.held[index][1]].append(index)

    def set_so(self, literal, reason):
        """Adds a literal, with the index of the clause that draws it, or None if it is put."""
        self.sides[literal] = SO
        self.sides[literal ^ 1] = DENIED
        self.layers[literal // 2] = len(self.starts)
        self.reasons[literal // 2] = reason
        self.steps.append(literal)

    def put(self, literal):
        """Puts a literal, as a layer of its own, and follows; there is no clash so far."""
        self.chosen.append(literal)
        self.starts.append(len(self.steps))
        if self.sides[literal] == DENIED:
            self.clash = self.reasons[literal // 2]
        elif self.sides[literal] == UNSET:
            self.set_so(literal, None)
            self.follow_on()

    def lead(self, given):
        """Has just these literals put, in this order, up to a dead end; tells whether none is met."""
        same = 0
        # what was put in the same way need not be followed again
        while same < len(given) and same < len(self.chosen) and given[same] == self.chosen[same]:
            same += 1
        self.go_back(same)
        for literal in given[same:]:
            if self.clash is None:
                self.put(literal)
        return self.clash is None

    def follow_on(self):
        """Draws what single clauses draw, up to a clause that is denied whole."""
        while self.clash is None and self.followed < len(self.steps):
            self.look_again(self.steps[self.followed] ^ 1)
            self.followed = self.followed + 1

    def look_again(self, denied):
        """Looks at the clauses that watch a denied literal."""
        waiting = list(self.watchers[denied])
        self.watchers[denied] = []
        for at, index in enumerate(waiting):
            clause = self.held[index]
            if clause[0] == denied:
                clause[0], clause[1] = clause[1], clause[0]
            other = clause[0]
            if self.sides[other] != SO and self.has_moved(index):
                continue
            self.watchers[denied].append(index)
            if self.sides[other] == DENIED:
                self.watchers[denied].extend(waiting[at + 1:])
                self.clash = index
                return
            if self.sides[other] == UNSET:
                self.set_so(other, index)

    def has_moved(self, index):
        """Has the clause watch a further literal that is not denied instead of its second one, if there is one."""
        clause = self.held[index]
        at = 2
        while at < len(clause) and self.sides[clause[at]] == DENIED:
            at = at + 1
        if at >= len(clause):
            return False
        clause[1], clause[at] = clause[at], clause[1]
        self.watchers[clause[1]].append(index)
        return True

    def go_back(self, layer):
        """Takes back all that was put behind this layer, with what was drawn by it."""
        if len(self.starts) <= layer:
            return
        start = self.starts[layer]
        for literal in self.steps[start:]:
            self.sides[literal] = UNSET
            self.sides[literal ^ 1] = UNSET
        del self.steps[start:]
        del self.starts[layer:]
        del self.chosen[layer:]
        self.followed = start
        self.clash = None

    def pairs(self, given):
        """What was drawn, as pairs (index of a clause, literal), after these literals were put.

        A given literal may have been drawn by those ahead of it before it was put: it is no drawn one then. If its
        opposite was drawn, the clause that drew it is denied whole.
        """
        found = []
        put = {literal: True for literal in given}
        for literal in self.steps:
            if literal ^ 1 in put:
                return [*found, (self.reasons[literal // 2], None)]
            if literal not in put:
                found.append((self.reasons[literal // 2], literal))
        if self.clash is not None:
            found.append((self.clash, None))
        return found
