"""A search for a setting of all names that fits all clauses.

Literals are numbers here, their places: 2 * k and 2 * k + 1 for the name at k, so `literal ^ 1` is the opposite.
A code may have hundreds of helpers, so the search follows after each choice, and it keeps from each clash a clause
that follows from the others, so as not to run into the same clash again.
"""

UNSET = 0
SO = 1
DENIED = 2


class Search:
    """The clauses of some names, and a trail of literals that are so for the time being."""

    def __init__(self, many, clauses):
        self.sides = [UNSET] * (2 * many)
        # a clause is looked at again only if one of its two first literals comes to be denied
        self.watchers = [[] for literal in range(2 * many)]
        self.trail = []
        self.followed = 0
        # the choices cut the trail into layers; layer 0 holds what is so without any choice
        self.starts = []
        self.layers = [0] * many
        self.reasons = [None] * many
        self.next_name = 0
        self.is_lost = False
        for clause in clauses:
            self.take_in(list(clause))

    def take_in(self, clause):
        """Adds a clause at layer 0, before anything was followed."""
        if len(clause) > 1:
            self.watch(clause)
        elif not clause or self.sides[clause[0]] == DENIED:
            self.is_lost = True
        elif self.sides[clause[0]] == UNSET:
            self.set_so(clause[0], None)

    def watch(self, clause):
        """Has a clause looked at when one of its two first literals comes to be denied."""
        self.watchers[clause[0]].append(clause)
        self.watchers[clause[1]].append(clause)

    def set_so(self, literal, reason):
        """Puts a literal on the trail, with the clause that draws it, if it is no choice."""
        self.sides[literal] = SO
        self.sides[literal ^ 1] = DENIED
        self.layers[literal // 2] = len(self.starts)
        self.reasons[literal // 2] = reason
        self.trail.append(literal)

    def filled(self, given):
        """A full setting with the given literals that fits all clauses, ascending; None if there is none."""
        self.go_back(0)
        while not self.is_lost:
            clash = self.follow_on()
            if clash is not None:
                self.learn(clash)
                continue
            literal = self.next_choice(given)
            if literal is None:
                return sorted([int(place) for place in self.trail])
            if self.sides[literal] == DENIED:
                return None
            self.starts.append(len(self.trail))
            self.set_so(literal, None)
        return None

    def next_choice(self, given):
        """The first given literal that is not so, else the denial of the next open name, else None."""
        for literal in given:
            if self.sides[literal] != SO:
                return literal
        while self.next_name < len(self.layers):
            if self.sides[2 * self.next_name] == UNSET:
                return 2 * self.next_name + 1
            self.next_name += 1
        return None

    def follow_on(self):
        """Draws what single clauses draw; returns a clause that is denied whole, or None."""
        while self.followed < len(self.trail):
            clash = self.look_again(self.trail[self.followed] ^ 1)
            if clash is not None:
                return clash
            self.followed += 1
        return None

    def look_again(self, denied):
        """Looks at the clauses that watch a denied literal; returns one that is denied whole, or None."""
        clauses = list(self.watchers[denied])
        self.watchers[denied] = []
        for at, clause in enumerate(clauses):
            if clause[0] == denied:
                clause[0], clause[1] = clause[1], clause[0]
            other = clause[0]
            if self.sides[other] != SO and self.has_moved(clause):
                continue
            self.watchers[denied].append(clause)
            if self.sides[other] == DENIED:
                self.watchers[denied].extend(clauses[at + 1:])
                return clause
            if self.sides[other] == UNSET:
                self.set_so(other, clause)
        return None

    def has_moved(self, clause):
        """Has the clause watch a further literal that is not denied instead of its second one, if there is one."""
        at = 2
        while at < len(clause) and self.sides[clause[at]] == DENIED:
            at += 1
        if at >= len(clause):
            return False
        clause[1], clause[at] = clause[at], clause[1]
        self.watchers[clause[1]].append(clause)
        return True

    def learn(self, clash):
        """Goes back from a clash, with a further clause that forbids what led to it."""
        if not self.starts:
            self.is_lost = True
            return
        first, *others = self.lesson(clash)
        back = 0
        for literal in others:
            back = max(back, int(self.layers[literal // 2]))
        # the two literals that are watched are those that come to be unset first
        clause = [first, *[literal for literal in others if self.layers[literal // 2] == back],
                  *[literal for literal in others if self.layers[literal // 2] != back]]
        self.go_back(back)
        if len(clause) > 1:
            self.watch(clause)
        self.set_so(first, clause)

    def lesson(self, clash):
        """A clause that follows from the others and is denied whole; just its first literal is of the last layer.

        It is the clash, in which literals of the last layer are replaced, from the end of the trail on, by the
        other literals of the clauses that drew their opposites, until just one is left.
        """
        seen = {}
        earlier = []
        waiting = 0
        at = len(self.trail)
        clause = clash
        while True:
            for literal in clause:
                if literal // 2 in seen or self.layers[literal // 2] == 0:
                    continue
                seen[literal // 2] = True
                if self.layers[literal // 2] == len(self.starts):
                    waiting += 1
                else:
                    earlier.append(literal)
            at -= 1
            while self.trail[at] // 2 not in seen:
                at -= 1
            waiting -= 1
            if waiting == 0:
                return [self.trail[at] ^ 1, *earlier]
            clause = self.reasons[self.trail[at] // 2]

    def go_back(self, layer):
        """Takes back all choices behind this layer, with what was drawn from them."""
        if len(self.starts) <= layer:
            return
        start = self.starts[layer]
        for literal in self.trail[start:]:
            self.sides[literal] = UNSET
            self.sides[literal ^ 1] = UNSET
        del self.trail[start:]
        del self.starts[layer:]
        self.followed = start
        self.next_name = 0
