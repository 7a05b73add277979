"""Promise 9: ways to write a rule."""

import unittest

from lastopen.codes import Code
from lastopen.errors import BadCount, BadNames
from lastopen.rules import Rule
from lastopen.ways import direct, rows, whole
from tests.helping import SIX, all_full, anything, opposite, plain_shortest, seeded, shuffled, some_rule

HELPERS = ["h" + x + y for x in "abcdefgh" for y in "abcdefgh"]


def rules():
    """The rules at the edges, and random ones of unlike sizes."""
    rnd = seeded(9)
    edges = [Rule([], []), Rule([], [[]]), Rule(["a"], []), Rule(["a"], [["a"], ["-a"]]), Rule(["b"], [["-b"]]),
             Rule(SIX, []), Rule(SIX, all_full(SIX))]
    return edges + [some_rule(rnd, shuffled(rnd, SIX)[:size]) for size in range(7) for _ in range(12)]


def plain_rows(rule, helpers):
    clauses = []
    for helper, setting in zip(helpers, rule.settings()):
        clauses += [{"-" + helper, literal} for literal in setting]
    for sign in rule.signs():
        for literal in (sign, "-" + sign):
            clauses.append({opposite(literal)} | {helper for helper, setting in zip(helpers, rule.settings())
                                                  if literal in setting})
    clauses.append(set(helpers))
    return [clause for k, clause in enumerate(clauses) if clause not in clauses[:k]]


class Ways(unittest.TestCase):
    """[9] Ways to write a rule"""

    def test_direct(self):
        for rule in rules():
            code = direct(rule)
            self.assertIs(code.__class__, Code)
            self.assertEqual((code.signs(), code.helpers()), (rule.signs(), []))
            self.assertEqual(code.clauses(), [tuple(opposite(literal) for literal in row)
                                              for row in all_full(rule.signs()) if row not in rule.settings()])
            self.assertEqual(code.rule(), rule)

    def test_whole(self):
        for rule in rules():
            code = whole(rule)
            self.assertIs(code.__class__, Code)
            self.assertEqual((code.signs(), code.helpers()), (rule.signs(), []))
            self.assertEqual(code.clauses(), rule.shortest())
            if len(rule.signs()) < 5:
                self.assertEqual(code.clauses(), plain_shortest(rule.signs(), rule.settings()))
            self.assertEqual(code.rule(), rule)

    def test_rows(self):
        rnd = seeded(10)
        for rule in rules():
            helpers = shuffled(rnd, HELPERS)[:len(rule)]
            code = rows(rule, helpers)
            self.assertIs(code.__class__, Code)
            self.assertEqual((code.signs(), code.helpers()), (rule.signs(), helpers))
            self.assertEqual([set(clause) for clause in code.clauses()], plain_rows(rule, helpers))
            self.assertEqual(code.rule(), rule)

    def test_written_out(self):
        rule = Rule(["b", "a"], [["-a", "b"], ["-b", "a"], ["-a", "-b"]])
        self.assertEqual(direct(rule).clauses(), [("-b", "-a")])
        self.assertEqual(whole(rule).clauses(), [("-b", "-a")])
        self.assertEqual(rows(rule, ("x", "y", "w")).clauses(), [
            ("b", "-x"), ("-a", "-x"), ("-b", "-y"), ("a", "-y"), ("-b", "-w"), ("-a", "-w"),
            ("-b", "x"), ("b", "y", "w"), ("-a", "y"), ("a", "x", "w"), ("x", "y", "w")])

    def test_edges(self):
        self.assertEqual(direct(Rule([], [])).clauses(), [()])
        self.assertEqual(direct(Rule([], [[]])).clauses(), [])
        self.assertEqual(whole(Rule([], [])).clauses(), [()])
        self.assertEqual(whole(Rule([], [[]])).clauses(), [])
        self.assertEqual(whole(Rule(SIX, [])).clauses(), [()])
        self.assertEqual(rows(Rule([], []), []).clauses(), [()])
        self.assertEqual(rows(Rule([], [[]]), ["h"]).clauses(), [("h",)])
        self.assertEqual(rows(Rule(["a"], []), ()).clauses(), [("-a",), ("a",), ()])
        self.assertEqual(len(direct(Rule(SIX, []))), 64)
        self.assertEqual(len(rows(Rule(SIX, all_full(SIX)), HELPERS).helpers()), 64)

    def test_by_name(self):
        rule = Rule(["a"], [["a"]])
        self.assertEqual(rows(helpers=["h"], rule=rule), rows(rule, ["h"]))
        self.assertEqual((direct(rule=rule), whole(rule=rule)), (direct(rule), whole(rule)))

    def test_copies(self):
        rule = Rule(["a"], [["a"]])
        helpers = ["h"]
        code = rows(rule, helpers)
        helpers.append("g")
        self.assertEqual(code.helpers(), ["h"])
        self.assertEqual(rule.settings(), [("a",)])

    def test_wrong_numbers_of_helpers(self):
        for size in range(4):
            rule = Rule(["a", "b"], all_full(["a", "b"])[:size])
            for n in range(7):
                # the number is looked at ahead of the things
                for things in (HELPERS[:n], [0] * n, ("a",) * n):
                    if n != size:
                        with self.assertRaises(BadCount) as caught:
                            rows(rule, things)
                        self.assertEqual(caught.exception.n, n)

    def test_wrong_helpers(self):
        rule = Rule(["a", "b"], all_full(["a", "b"])[:3])
        for thing in [*anything(), "-h", ["h"], "a", "b", "-a"]:
            for index in range(3):
                helpers = ["h", "g", "k"][:index] + [thing] + ["h", 0, "a"][:2 - index]
                with self.assertRaises(BadNames) as caught:
                    rows(rule, helpers)
                self.assertEqual(caught.exception.index, index)

    def test_helpers_that_stood_before(self):
        rule = Rule(["a", "b"], all_full(["a", "b"]))
        for helpers, index in ((["h", "h", "a", 0], 1), (["h", "g", "h", "h"], 2), (["h", "g", "k", "g"], 3)):
            with self.assertRaises(BadNames) as caught:
                rows(rule, helpers)
            self.assertEqual(caught.exception.index, index)


if __name__ == "__main__":
    unittest.main()
