"""The trail, on which following rests: asked again and again it tells what a fresh one tells."""

import unittest

from lastopen.trails import Trail
from tests.helping import seeded


def some_clauses(rnd, many):
    rows = []
    for _ in range(rnd.randint(0, 3 * many)):
        names = rnd.sample(range(many), min(many, rnd.choice([1, 2, 2, 2, 3, 3, 4])))
        rows.append([2 * name + rnd.randint(0, 1) for name in names])
    return rows


class Trails(unittest.TestCase):

    def test_asked_again_and_again(self):
        rnd = seeded(21)
        for _ in range(300):
            many = rnd.randint(1, 8)
            clauses = some_clauses(rnd, many)
            before = [list(clause) for clause in clauses]
            trail = Trail(many, clauses)
            given = []
            for _ in range(12):
                # what is put next begins like what was put, or not
                given = given[:rnd.randint(0, len(given))]
                open_names = [name for name in range(many) if 2 * name not in given and 2 * name + 1 not in given]
                for name in rnd.sample(open_names, min(len(open_names), rnd.randint(0, 3))):
                    given = given + [2 * name + rnd.randint(0, 1)]
                fresh = Trail(many, clauses)
                found = trail.lead(given)
                self.assertEqual(found, fresh.lead(given))
                if found:
                    self.assertEqual(sorted(trail.steps), sorted(fresh.steps))
                    self.assertEqual(trail.chosen, given)
                self.check_pairs(clauses, given, trail.pairs(given), found)
            self.assertEqual(clauses, before)

    def check_pairs(self, clauses, given, pairs, found):
        so = set(given)
        self.assertEqual([literal for index, literal in pairs if literal is None], [] if found else [None])
        for index, literal in pairs:
            left = [part for part in clauses[index] if part ^ 1 not in so]
            self.assertEqual(left, [] if literal is None else [literal])
            self.assertNotIn(literal, so)
            so.add(literal)
        self.assertTrue(found or pairs[-1][1] is None)

    def test_what_was_put_stays(self):
        trail = Trail(3, [[1, 2], [3, 4]])
        self.assertTrue(trail.lead([0]))
        self.assertEqual(trail.steps, [0, 2, 4])
        self.assertTrue(trail.lead([]))
        self.assertEqual((trail.steps, trail.chosen, trail.starts), ([], [], []))
        self.assertFalse(trail.lead([0, 5]))
        self.assertTrue(trail.lead([5]))
        self.assertEqual(trail.steps, [5, 3, 1])


if __name__ == "__main__":
    unittest.main()
