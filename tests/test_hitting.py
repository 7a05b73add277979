"""The search for few numbers that hit all groups, on which promises 18 and 19 rest."""

import itertools
import unittest

from lastopen.hitting import first_fewest
from tests.helping import seeded


def plain_first(groups, many):
    for size in range(many + 1):
        for chosen in itertools.combinations(range(many), size):
            if all(any(group >> number & 1 for number in chosen) for group in groups):
                return list(chosen)


class Hitting(unittest.TestCase):

    def test_by_all_lists(self):
        rnd = seeded(1)
        for _ in range(400):
            many = rnd.randint(1, 9)
            size = rnd.choice([1, 2, 2, 3, 4, many])
            groups = []
            for _ in range(rnd.randint(0, 12)):
                groups.append(sum(1 << number for number in rnd.sample(range(many), min(many, rnd.randint(1, size)))))
            before = list(groups)
            self.assertEqual(first_fewest(groups), plain_first(groups, many))
            self.assertEqual(groups, before)

    def test_edges(self):
        self.assertEqual(first_fewest([]), [])
        self.assertEqual(first_fewest([1]), [0])
        self.assertEqual(first_fewest([6, 6, 12]), [2])
        self.assertEqual(first_fewest([6, 24]), [1, 3])
        self.assertEqual(first_fewest([3 << 2 * at for at in range(100)]), list(range(0, 200, 2)))


if __name__ == "__main__":
    unittest.main()
