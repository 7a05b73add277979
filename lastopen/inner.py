"""Codes inside codes: clauses over further helpers that follow in a code as following itself does."""

from lastopen.literals import LETTERS, literals_of, opposite

FEWEST_LETTERS = 4


class Inner:
    """A code that is followed inside another one.

    A helper for each literal tells that it is denied there, and one more that there is a dead end: it is out.
    """

    def __init__(self, code, names):
        self.around = code
        self.denials = {literal: name for literal, name in zip(code.places, names)}
        self.out = names[-1]

    def clauses_that_follow(self):
        """The clauses by which is denied there what following denies, and it is out where following is."""
        clauses = []
        for clause in self.around.rows:
            if not clause:
                clauses.append([self.out])
            for literal in clause:
                others = ["-" + self.denials[other] for other in clause if other != literal]
                clauses.append([*others, self.denials[opposite(literal)]])
        for name in (*self.around.own_signs, *self.around.own_helpers):
            clauses.append(["-" + self.denials[name], "-" + self.denials["-" + name], self.out])
        return clauses

    def clauses_from_outside(self):
        """The clauses by which is denied there what is denied outside."""
        return [[literal, self.denials[literal]] for literal in literals_of(self.around.own_signs)]

    def clauses_if_out(self):
        """The clauses by which all is denied there if it is out."""
        return [["-" + self.out, self.denials[literal]] for literal in self.around.places]


def new_names(codes, many):
    """So many names that none of the codes has."""
    found = []
    number = 0
    while len(found) < many:
        name = word(number)
        if not any([name in code.places for code in codes]):
            found.append(name)
        number += 1
    return found


def word(number):
    """The word at this number, of all that have these letters."""
    letters = ""
    while number > 0 or len(letters) < FEWEST_LETTERS:
        number, last = divmod(number, len(LETTERS))
        letters = LETTERS[last] + letters
    return letters
