"""The search for a full setting, on which promise 7 rests."""

import itertools
import unittest

from lastopen.search import Search
from tests.helping import seeded


def plain_filled(many, clauses, given):
    """All full settings with the given literals that fit all clauses."""
    rows = []
    for sides in itertools.product((0, 1), repeat=many):
        row = [2 * k + side for k, side in enumerate(sides)]
        if set(given) <= set(row) and all(set(clause) & set(row) for clause in clauses):
            rows.append(row)
    return rows


def some_clauses(rnd, many):
    sizes = rnd.choice([[0, 1, 2, 3], [1, 2, 2, 3], [2, 3], [2, 3, 3, 4], [3, 4, 5]])
    rows = []
    for _ in range(rnd.randint(0, 5 * many)):
        names = rnd.sample(range(many), min(many, rnd.choice(sizes)))
        rows.append([2 * name + rnd.randint(0, 1) for name in names])
    return rows


class Searches(unittest.TestCase):

    def test_asked_again_and_again(self):
        rnd = seeded(11)
        for _ in range(500):
            many = rnd.randint(0, 7)
            clauses = some_clauses(rnd, many)
            before = [list(clause) for clause in clauses]
            search = Search(many, clauses)
            for _ in range(6):
                given = [2 * name + rnd.randint(0, 1) for name in rnd.sample(range(many), rnd.randint(0, many))]
                rows = plain_filled(many, clauses, given)
                found = search.filled(given)
                if rows:
                    self.assertIn(found, rows)
                else:
                    self.assertIsNone(found)
            self.assertEqual(clauses, before)

    def test_edges(self):
        self.assertEqual(Search(0, []).filled([]), [])
        self.assertIsNone(Search(0, [[]]).filled([]))
        self.assertEqual(Search(2, [[3]]).filled([0]), [0, 3])
        self.assertIsNone(Search(2, [[3]]).filled([2]))
        self.assertIsNone(Search(1, [[0], [1]]).filled([]))

    def test_long_drawing(self):
        # each name draws the one ahead of it: no choice but the first one is needed
        clauses = [[2 * k, 2 * k + 3] for k in range(2000)]
        search = Search(2001, clauses)
        self.assertEqual(search.filled([4000]), list(range(0, 4002, 2)))
        self.assertIsNone(search.filled([4000, 1]))


if __name__ == "__main__":
    unittest.main()
