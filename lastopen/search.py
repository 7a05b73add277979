"""A search for a setting of all names that fits all clauses.

A code may have hundreds of helpers, so the search follows after each choice, and it keeps from each clash a clause
that follows from the others, so as not to run into the same clash again. Literals are numbers, as in a Trail.
"""

from lastopen.trails import DENIED, SO, UNSET, Trail


class Search(Trail):
    """A trail that takes back what led to a clash, and goes on elsewhere."""

    def __init__(self, many, clauses):
        Trail.__init__(self, many, clauses)
        # the names ahead of this one are not open
        self.next_name = 0

    def filled(self, given):
        """A full setting with the given literals that fits all clauses, ascending; None if there is none."""
        self.go_back(0)
        self.next_name = 0
        while True:
            if self.clash is not None:
                # a clash in layer 0 stays: no setting fits
                if not self.starts:
                    return None
                self.learn()
                continue
            literal = self.next_choice(given)
            if literal is None:
                return sorted([int(place) for place in self.steps])
            if self.sides[literal] == DENIED:
                return None
            self.put(literal)

    def next_choice(self, given):
        """The first given literal that is not so, else the denial of the next open name, else None."""
        for literal in given:
            if self.sides[literal] != SO:
                return literal
        while self.next_name < len(self.layers):
            if self.sides[2 * self.next_name] == UNSET:
                return 2 * self.next_name + 1
            self.next_name += 1
        return None

    def learn(self):
        """Goes back from a clash, with a further clause that forbids what led to it, and follows on."""
        first, *others = self.lesson()
        back = 0
        for literal in others:
            back = max(back, int(self.layers[literal // 2]))
        # the two literals that are watched are those that come to be unset first
        clause = [first, *[literal for literal in others if self.layers[literal // 2] == back],
                  *[literal for literal in others if self.layers[literal // 2] != back]]
        self.go_back(back)
        self.next_name = 0
        self.held.append(clause)
        if len(clause) > 1:
            self.watch(len(self.held) - 1)
        self.set_so(first, len(self.held) - 1)
        self.follow_on()

    def lesson(self):
        """A clause that follows from the others and is denied whole; just its first literal is of the last layer.

        It is the clash, in which literals of the last layer are replaced, from the end of the trail on, by the
        other literals of the clauses that drew their opposites, until just one is left.
        """
        seen = {}
        earlier = []
        waiting = 0
        at = len(self.steps)
        clause = self.held[self.clash]
        while True:
            for literal in clause:
                if literal // 2 in seen or self.layers[literal // 2] == 0:
                    continue
                seen[literal // 2] = True
                if self.layers[literal // 2] == len(self.starts):
                    waiting += 1
                else:
                    earlier.append(literal)
            at -= 1
            while self.steps[at] // 2 not in seen:
                at -= 1
            waiting -= 1
            if waiting == 0:
                return [self.steps[at] ^ 1, *earlier]
            clause = self.held[self.reasons[self.steps[at] // 2]]
