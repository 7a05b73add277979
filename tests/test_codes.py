"""Promises 6 to 8: codes."""

import unittest

from lastopen.codes import Code
from lastopen.errors import BadClause, BadNames, Clash, NoClause, TooMany
from lastopen.rules import Rule
from tests.helping import (SEVEN, SIX, all_full, anything, fits, no_lists, plain_rule, seeded, shuffled,
                           some_clauses, some_code)


class Codes(unittest.TestCase):
    """[6] Codes"""

    def raised(self, error, *told, **named):
        with self.assertRaises(error) as caught:
            Code(*told, **named)
        self.assertIs(caught.exception.__class__, error)
        return caught.exception.index

    def test_kept(self):
        code = Code(["b", "a"], [["a", "-b"], ["h", "a", "b"], [], ("-h",)], ["h"])
        self.assertEqual((code.signs(), code.helpers()), (["b", "a"], ["h"]))
        self.assertEqual(code.clauses(), [("-b", "a"), ("b", "a", "h"), (), ("-h",)])
        self.assertEqual(len(code), 4)

    def test_by_name_and_as_tuples(self):
        code = Code(helpers=("h", "g"), clauses=(("g", "-a"), ["-g", "-h"]), signs=("a",))
        self.assertEqual((code.signs(), code.helpers()), (["a"], ["h", "g"]))
        self.assertEqual(code.clauses(), [("-a", "g"), ("-h", "-g")])
        self.assertEqual(Code(["a"], []).helpers(), [])

    def test_nothing(self):
        code = Code([], [])
        self.assertEqual((code.signs(), code.helpers(), code.clauses(), len(code)), ([], [], [], 0))

    def test_ascending(self):
        rnd = seeded(6)
        names = shuffled(rnd, [*SEVEN, "h", "i", "j"])
        place = {literal: k for k, literal in enumerate(lit for name in names for lit in (name, "-" + name))}
        for _ in range(100):
            clauses = some_clauses(rnd, names, 10)
            expected = []
            for clause in clauses:
                clause = tuple(sorted(clause, key=lambda literal: place[literal]))
                if clause not in expected:
                    expected.append(clause)
            code = Code(names[:5], clauses, names[5:])
            self.assertEqual((code.clauses(), len(code)), (expected, len(expected)))

    def test_stood_before(self):
        code = Code(["a", "b"], [["a", "b"], ["b"], ["b", "a"], [], ("b",), ["-a"], ()])
        self.assertEqual(code.clauses(), [("a", "b"), ("b",), (), ("-a",)])

    def test_many_signs(self):
        signs = [x + y for x in "abcdefghij" for y in "abcdefghij"]
        code = Code(signs, [signs, ["-" + sign for sign in signs]])
        self.assertEqual((code.signs(), code.clauses()[0]), (signs, tuple(signs)))

    def test_no_names(self):
        for thing in [*anything(), [], (), "-a", ["a"], "a", "b"]:
            for index in (2, 3):
                signs = ["a", "b", "c"]
                signs.insert(index, thing)
                self.assertEqual(self.raised(BadNames, signs, [5], ["h"]), index)
            for index in range(2):
                helpers = ["h"]
                helpers.insert(index, thing)
                self.assertEqual(self.raised(BadNames, ["a", "b", "c"], [5], helpers), 3 + index)

    def test_names_that_stood_before(self):
        self.assertEqual(self.raised(BadNames, ["a", "b", "a"], []), 2)
        self.assertEqual(self.raised(BadNames, ["a", "b"], [], ["h", "b"]), 3)
        self.assertEqual(self.raised(BadNames, ["a", "b"], [], helpers=["h", "h", 1]), 3)
        self.assertEqual(self.raised(BadNames, [1], [], [2]), 0)

    def test_no_clauses(self):
        wrong = [thing for thing in anything()] + ["a", "ab", "-a", ["c"], ["a", "a"], ["a", "-a"], ["a", "b", "-a"],
                                                   ["h", "a", "x"], ["a", None], [["a"]], {"a": "b"}, ("a", 0)]
        for thing in wrong:
            for index in range(3):
                clauses = [["a", "h"], []]
                clauses.insert(index, thing)
                self.assertEqual(self.raised(BadClause, ["a", "b"], [*clauses, 0], ["h"]), index)

    def test_first_error_first(self):
        self.assertEqual(self.raised(BadNames, ["a", 0], [0]), 1)
        self.assertEqual(self.raised(BadNames, ["a"], [0], ["a"]), 1)
        self.assertEqual(self.raised(BadClause, ["a"], [["a"], ["h"], 0]), 1)

    def test_copies(self):
        signs, helpers, clause = ["a"], ["h"], ["h", "a"]
        clauses = [clause]
        code = Code(signs, clauses, helpers)
        self.assertEqual((signs, helpers, clauses), (["a"], ["h"], [["h", "a"]]))
        signs.append("b")
        helpers.append("g")
        clause[0] = "-h"
        clauses.append([])
        code.signs().append("b")
        code.helpers().append("g")
        code.clauses().append(())
        self.assertEqual((code.signs(), code.helpers(), code.clauses()), (["a"], ["h"], [("a", "h")]))

    def test_in(self):
        code = Code(["a", "b"], [["a", "-b"], ["h"], ["-h", "b", "a"]], ["h"])
        for thing in (["a", "-b"], ["-b", "a"], ("-b", "a"), ["h"], ("h",), ["a", "b", "-h"], ("-h", "b", "a")):
            self.assertIs(thing in code, True)
        for thing in ([], (), ["a"], ["a", "b"], ["h", "h"], ["a", "-b", "a"], "h", {"h": 1}, ["h", None], [["h"]],
                      ["x"], ["a", ["-b"]], ["-h"]):
            self.assertIs(thing in code, False)
        self.assertIs([] in Code([], [[]]), True)
        self.assertIs(() in Code(["a"], [["a"], []]), True)
        self.assertIs([] in Code([], []), False)
        self.assertIs({} in Code([], [[]]), False)

    def test_any_object_in(self):
        for code in (Code(["a"], [["a"], ["-a"], []]), Code([], [[]]), Code([], [])):
            for thing in [*anything(), *no_lists()]:
                self.assertIs(thing in code, False)

    def test_equal(self):
        code = Code(["a", "b"], [["a", "-b"], ["h", "-g"], ["a"]], ["h", "g"])
        same = Code(["b", "a"], [["a"], ["-g", "h"], ["-b", "a"]], ["g", "h"])
        self.assertIs(code == same, True)
        self.assertIs(code != same, False)
        for other in (Code(["a", "b"], [["a", "-b"], ["h", "-g"]], ["h", "g"]),
                      Code(["a", "b"], [["a", "-b"], ["h", "-g"], ["b"]], ["h", "g"]),
                      Code(["a", "b"], [["a", "-b"], ["h", "-g"], ["a"], []], ["h", "g"]),
                      Code(["a", "b", "h"], [["a", "-b"], ["h", "-g"], ["a"]], ["g"]),
                      Code(["a", "b", "c"], [["a", "-b"], ["h", "-g"], ["a"]], ["h", "g"]),
                      Code(["a", "b"], [["a", "-b"], ["h", "-g"], ["a"]], ["h", "g", "i"]),
                      Code(["h", "g"], [["a", "-b"], ["h", "-g"], ["a"]], ["a", "b"])):
            self.assertIs(code == other, False)
            self.assertIs(other == code, False)
            self.assertIs(code != other, True)

    def test_equals_nothing_else(self):
        for code in (Code([], []), Code(["a"], [["a"]])):
            for thing in [code.clauses(), code.signs(), code.rule(), 0, None, False, "a", {}, len]:
                self.assertIs(code == thing, False)
                self.assertIs(code != thing, True)
        self.assertNotEqual(Code([], []), Code([], [[]]))
        self.assertNotEqual(Code(["a"], []), Code([], [], ["a"]))


class TheRuleOfACode(unittest.TestCase):
    """[7] The rule of a code"""

    def test_some_rules(self):
        rnd = seeded(7)
        for _ in range(400):
            code = some_code(rnd)
            rule = code.rule()
            self.assertEqual(rule.signs(), code.signs())
            self.assertEqual(rule.settings(), plain_rule(code.signs(), code.clauses(), code.helpers()))

    def test_more_helpers(self):
        rnd = seeded(77)
        for most in (20, 30, 40, 50):
            signs, helpers = SIX[:2], ["h", "i", "j", "k", "l", "m", "n", "o", "p"]
            clauses = [clause for clause in some_clauses(rnd, signs + helpers, most) if len(clause) > 1]
            code = Code(signs, clauses, helpers)
            self.assertEqual(code.rule().settings(), plain_rule(signs, code.clauses(), helpers))

    def test_edges(self):
        self.assertEqual(Code([], []).rule(), Rule([], [[]]))
        self.assertEqual(Code([], [[]]).rule(), Rule([], []))
        self.assertEqual(Code(["a"], [[]]).rule(), Rule(["a"], []))
        self.assertEqual(Code(["a"], []).rule(), Rule(["a"], [["a"], ["-a"]]))
        self.assertEqual(Code([], [["h"], ["-h"]], ["h"]).rule(), Rule([], []))
        self.assertEqual(Code([], [["h"]], ["h"]).rule(), Rule([], [[]]))
        self.assertEqual(Code(["a", "b"], [["b"]], ["h"]).rule().settings(), [("a", "b"), ("-a", "b")])

    def test_total(self):
        rnd = seeded(8)
        for _ in range(200):
            code = some_code(rnd, 3, 3)
            names = code.signs() + code.helpers()
            total = code.total()
            self.assertEqual(total.signs(), names)
            self.assertEqual(total.settings(), [row for row in all_full(names) if fits(row, code.clauses())])

    def test_too_many(self):
        self.assertEqual(len(Code(SIX, []).rule()), 64)
        self.assertEqual(len(Code(SIX, [], ["h"]).rule()), 64)
        self.assertEqual(len(Code(SIX[:4], [["h"]], ["h", "i"]).total()), 32)
        for asked, n in ((Code(SEVEN, []).rule, 7), (Code(SEVEN, [[]], ["h"]).rule, 7), (Code(SEVEN, []).total, 7),
                         (Code(SIX, [[]], ["g"]).total, 7), (Code([], [], [*SEVEN, "h"]).total, 8)):
            with self.assertRaises(TooMany) as caught:
                asked()
            self.assertEqual(caught.exception.n, n)

    def test_far_too_many(self):
        names = [x + y for x in "abcdefghij" for y in "abcdefghijklmnopqrst"]
        for asked in (Code(names, []).rule, Code(names, []).total, Code(["z"], [], names[:-1]).total):
            with self.assertRaises(TooMany) as caught:
                asked()
            self.assertEqual(caught.exception.n, 200)

    def test_a_long_chain_of_helpers(self):
        names = [x + y for x in "abcdefghij" for y in "abcdefghijklmnopqrst"]
        clauses = []
        for one, other in zip(["a", *names], [*names, "b"]):
            clauses += [["-" + one, other], [one, "-" + other]]
        self.assertEqual(Code(["a", "b"], clauses, names).rule().settings(), [("a", "b"), ("-a", "-b")])

    def test_odd_and_even(self):
        # helpers that tell whether the signs so far are even; and, behind them, the same once more the other way
        clauses, names, last = [], [], None
        for turn, signs in (("p", SIX), ("q", SIX[::-1])):
            last = None
            for sign in signs:
                name = turn + sign
                names.append(name)
                clauses += same_or_odd(name, sign, last)
                last = name
        code = Code(SIX, [*clauses, ["pf"]], names)
        self.assertEqual(len(code.rule()), 32)
        self.assertTrue(all(sum(literal[0] != "-" for literal in row) % 2 for row in code.rule().settings()))
        self.assertEqual(len(Code(SIX, [*clauses, ["pf"], ["-qa"]], names).rule()), 0)

    def test_things_that_have_no_place(self):
        # one thing more than there are places: no setting of the helpers fits, unless a is so
        for things in (3, 4, 5):
            helpers = [["h" + "abcdef"[x] + "abcdef"[y] for y in range(things - 1)] for x in range(things)]
            clauses = [["a", *row] for row in helpers]
            for x in range(things):
                for y in range(x):
                    clauses += [["-" + one, "-" + other] for one, other in zip(helpers[x], helpers[y])]
            code = Code(["a", "b"], clauses, [name for row in helpers for name in row])
            self.assertEqual(code.rule().settings(), [("a", "b"), ("a", "-b")])

    def test_codes_beside_each_other(self):
        # many solvable codes ahead of one that is not: it must not take all ways through the others
        code = Code(["a"], [])
        for x in "bcdefghijklmnopqrstuvwxy":
            helpers = [x + y for y in "abcdefghij"]
            code += Code(["a"], [helpers[k:k + 3] for k in range(8)], helpers)
        last = ["za", "zb", "zc"]
        code += Code(["a"], [["a", *row] for row in all_full(last)], last)
        self.assertEqual(code.rule().settings(), [("a",)])

    def test_codes_hung_together(self):
        # a chain of codes that tell only of full settings, with all signs hidden but the first and the last
        rnd = seeded(9)
        for part in (0.3, 0.6, 0.8):
            names = [x + y for x in "abcdefgh" for y in "abcde"] + ["z"]
            clauses, ways = [], {(True, True), (False, False)}
            for k in range(0, 40, 5):
                rows = [row for row in all_full(names[k:k + 6]) if rnd.random() < part]
                clauses += [["-" + lit if lit[0] != "-" else lit[1:] for lit in row] for row in rows]
                steps = {(row[0][0] != "-", row[-1][0] != "-") for row in all_full(names[k:k + 6]) if row not in rows}
                ways = {(one, two) for one, mid in ways for same, two in steps if mid == same}
            rule = Code(["aa", "z"], clauses, names[1:-1]).rule()
            self.assertEqual({(row[0] == "aa", row[1] == "z") for row in rule.settings()}, ways)


def same_or_odd(name, sign, last):
    """The clauses that say: name is so if just one of sign and last is."""
    if last is None:
        return [["-" + name, sign], [name, "-" + sign]]
    return [["-" + name, sign, last], ["-" + name, "-" + sign, "-" + last],
            [name, "-" + sign, last], [name, sign, "-" + last]]


class CodesPutTogether(unittest.TestCase):
    """[8] Codes put together"""

    def test_plus(self):
        one = Code(["b", "a"], [["a", "h"], ["b"], ["-a"]], ["h"])
        other = Code(["c", "a"], [["-a"], ["c", "i"], ["a", "c"]], ["i", "j"])
        joined = one + other
        self.assertEqual((joined.signs(), joined.helpers()), (["b", "a", "c"], ["h", "i", "j"]))
        self.assertEqual(joined.clauses(), [("a", "h"), ("b",), ("-a",), ("c", "i"), ("a", "c")])
        joined = other + one
        self.assertEqual((joined.signs(), joined.helpers()), (["c", "a", "b"], ["i", "j", "h"]))
        self.assertEqual(joined.clauses(), [("-a",), ("c", "i"), ("c", "a"), ("a", "h"), ("b",)])
        self.assertEqual((one.signs(), len(one), other.signs(), len(other)), (["b", "a"], 3, ["c", "a"], 3))

    def test_plus_without_helpers(self):
        code = Code(["a", "b"], [["a", "b"], []])
        self.assertEqual((code + code).clauses(), [("a", "b"), ()])
        self.assertEqual((code + Code([], [])).signs(), ["a", "b"])
        # the joined code keeps the clauses ascending by its own names
        self.assertEqual((Code(["b"], []) + code).clauses(), [("b", "a"), ()])

    def test_plus_of_many_signs(self):
        joined = Code(SIX, [["a", "f"]]) + Code(["g", "h"], [["g"]])
        self.assertEqual((joined.signs(), len(joined)), ([*SEVEN, "h"], 2))

    def test_the_rule_of_a_joined_code(self):
        rnd = seeded(10)
        for _ in range(100):
            one = Code(["a", "b"], some_clauses(rnd, ["a", "b", "h", "i"], 5), ["h", "i"])
            other = Code(["c", "b"], some_clauses(rnd, ["c", "b", "j"], 5), ["j"])
            self.assertEqual((one + other).rule(), one.rule() & other.rule())

    def test_clash(self):
        cases = [
            (Code(["a"], [], ["h", "i"]), Code(["i"], [], ["h"]), "h"),
            (Code(["a"], [], ["h", "i"]), Code(["i"], [], ["j", "a"]), "i"),
            (Code(["a", "b"], [], ["h"]), Code(["c"], [], ["b", "a"]), "b"),
            (Code(["a", "b"], [], ["h"]), Code(["c"], [], ["i", "h"]), "h"),
            (Code([], [], ["h", "i"]), Code([], [], ["i", "h"]), "h"),
        ]
        for one, other, name in cases:
            with self.assertRaises(Clash) as caught:
                one + other
            self.assertEqual(caught.exception.name, name)

    def test_more(self):
        code = Code(["a", "b"], [["a"], ["b", "h"]], ["h"])
        self.assertEqual(code.more([["h", "b"], ["-a", "b"], [], ("b", "-a")]).clauses(),
                         [("a",), ("b", "h"), ("-a", "b"), ()])
        self.assertEqual(code.more(clauses=()), code)
        self.assertEqual((code.more([[]]).signs(), code.more([[]]).helpers()), (["a", "b"], ["h"]))
        self.assertEqual(code.clauses(), [("a",), ("b", "h")])

    def test_more_copies(self):
        clause = ["b"]
        clauses = [clause]
        code = Code(["a", "b"], []).more(clauses)
        clause.append("a")
        clauses.append([])
        self.assertEqual(code.clauses(), [("b",)])

    def test_more_of_what_is_no_clause(self):
        code = Code(["a", "b"], [["a"], ["b", "h"]], ["h"])
        for thing in [*anything(), "a", ["a", "a"], ["a", "-a"], ["c"], ["a", None], [["a"]], {"a": "b"}]:
            for index in range(3):
                clauses = [["a", "h"], []]
                clauses.insert(index, thing)
                with self.assertRaises(BadClause) as caught:
                    code.more([*clauses, 0])
                self.assertEqual(caught.exception.index, index)

    def test_less(self):
        code = Code(["a", "b"], [["a"], ["b", "h"], []], ["h"])
        self.assertEqual(code.less(0).clauses(), [("b", "h"), ()])
        self.assertEqual(code.less(1).clauses(), [("a",), ()])
        self.assertEqual(code.less(index=2).clauses(), [("a",), ("b", "h")])
        self.assertEqual((code.less(0).signs(), code.less(0).helpers()), (["a", "b"], ["h"]))
        self.assertEqual(len(code), 3)

    def test_less_of_what_is_no_index(self):
        code = Code(["a", "b"], [["a"], ["b", "h"], []], ["h"])
        things = [thing for thing in anything() if not isinstance(thing, int) or isinstance(thing, bool)]
        for thing in [*things, 3, 4, -1, -3, 10 ** 5000, "0", [0], (1,), ["a"]]:
            with self.assertRaises(NoClause) as caught:
                code.less(thing)
            self.assertIs(caught.exception.index, thing)
        for thing in (0, False, -1, None):
            with self.assertRaises(NoClause) as caught:
                Code(["a"], []).less(thing)
            self.assertIs(caught.exception.index, thing)


if __name__ == "__main__":
    unittest.main()
