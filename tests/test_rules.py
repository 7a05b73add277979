"""Promises 1 to 5: rules."""

import itertools
import unittest

from lastopen.codes import Code
from lastopen.errors import BadNames, BadSetting, NoSign, TooMany
from lastopen.rules import Rule
from tests.helping import (SEVEN, SIX, all_full, all_partial, anything, no_lists, opposite, plain_shortest, seeded,
                           shuffled, some_rule)


class Rules(unittest.TestCase):
    """[1] Rules"""

    def raised(self, error, attribute, *told):
        with self.assertRaises(error) as caught:
            Rule(*told)
        self.assertIs(caught.exception.__class__, error)
        return getattr(caught.exception, attribute)

    def test_kept_as_given(self):
        rule = Rule(["b", "a"], [["-a", "b"], ["b", "a"]])
        self.assertEqual(rule.signs(), ["b", "a"])
        self.assertEqual(rule.settings(), [("b", "a"), ("b", "-a")])

    def test_by_name_and_as_tuples(self):
        rule = Rule(settings=(("b", "a"), ["a", "-b"]), signs=("a", "b"))
        self.assertEqual((rule.signs(), rule.settings()), (["a", "b"], [("a", "b"), ("a", "-b")]))

    def test_names_that_may_stand(self):
        signs = ["z", "abcdefgh", "zz", "h"]
        self.assertEqual(Rule(signs, []).signs(), signs)

    def test_no_names(self):
        for thing in [*anything(), [], (), "-a", ["a"]]:
            for index in range(3):
                signs = ["a", "b"]
                signs.insert(index, thing)
                self.assertEqual(self.raised(BadNames, "index", signs, []), index)

    def test_names_that_stood_before(self):
        self.assertEqual(self.raised(BadNames, "index", ["a", "b", "a", 7], []), 2)
        self.assertEqual(self.raised(BadNames, "index", ["a", "a"], [["a"], 5]), 1)

    def test_seven_signs(self):
        self.assertEqual(len(Rule(SIX, all_full(SIX))), 64)
        self.assertEqual(self.raised(TooMany, "n", SEVEN, []), 7)
        self.assertEqual(self.raised(TooMany, "n", [*SEVEN, "h", "i"], [5]), 9)

    def test_first_error_first(self):
        self.assertEqual(self.raised(BadNames, "index", [*SEVEN, "a"], [5]), 7)
        self.assertEqual(self.raised(BadNames, "index", ["a", 3], [5]), 1)
        self.assertEqual(self.raised(TooMany, "n", SEVEN, [5]), 7)

    def test_no_settings(self):
        wrong = [*anything(), [], (), ["a"], ["a", "a"], ["a", "-a"], ["a", "b", "b"], ["a", "b", "c"], ["a", "-c"],
                 "ab", ["a", None], ["a", ["b"]], ("a", {}), ["a", "b", None], {"a": "b", "b": "a"}]
        for thing in wrong:
            for index in range(3):
                settings = [["a", "b"], ("-b", "a")]
                settings.insert(index, thing)
                self.assertEqual(self.raised(BadSetting, "index", ["a", "b"], [*settings, 0]), index)

    def test_twice_counts_once(self):
        rule = Rule(["a", "b"], [["a", "b"], ["b", "a"], ("a", "b"), ["-a", "b"]])
        self.assertEqual((len(rule), rule.settings()), (2, [("a", "b"), ("-a", "b")]))

    def test_no_signs(self):
        self.assertEqual(Rule([], []).settings(), [])
        self.assertEqual(Rule([], [[], ()]).settings(), [()])
        self.assertEqual(self.raised(BadSetting, "index", [], [[], ["a"]]), 1)
        self.assertEqual(self.raised(BadSetting, "index", (), [{}]), 0)

    def test_copies(self):
        signs, setting = ["a", "b"], ["b", "-a"]
        settings = [setting]
        rule = Rule(signs, settings)
        self.assertEqual((signs, settings), (["a", "b"], [["b", "-a"]]))
        signs.append("c")
        setting[0] = "-b"
        settings.append(["a", "b"])
        self.assertEqual((rule.signs(), rule.settings()), (["a", "b"], [("-a", "b")]))


class RulesAsked(unittest.TestCase):
    """[2] Rules asked"""

    def test_settings_are_ordered(self):
        rnd = seeded(1)
        for n in range(7):
            names = shuffled(rnd, SIX)[:n]
            rows = [row for row in all_full(names) if rnd.random() < 0.5]
            rule = Rule(names, [shuffled(rnd, row) for row in shuffled(rnd, rows)])
            self.assertEqual((rule.settings(), len(rule)), (rows, len(rows)))
            self.assertTrue(all(isinstance(row, tuple) for row in rule.settings()))

    def test_lists_are_the_callers_own(self):
        rule = Rule(["a"], [["a"]])
        rule.signs().append("b")
        rule.settings().append(("-a",))
        rule.shortest().clear()
        rule.forced([]).clear()
        self.assertEqual((rule.signs(), rule.settings()), (["a"], [("a",)]))
        self.assertEqual((rule.shortest(), rule.forced([])), ([("a",)], ["a"]))

    def test_in(self):
        rule = Rule(["a", "b"], [["a", "-b"], ["-a", "b"]])
        for thing in (["a", "-b"], ["-b", "a"], ("-b", "a"), ("b", "-a")):
            self.assertIs(thing in rule, True)
        for thing in (["a", "b"], ["-b", "-a"], ["a"], [], ["a", "-b", "a"], ["a", "-b", "-b"], ["a", "-b", "c"],
                      {"a": 1, "-b": 2}, "a-b", ["a", None], ["a", ["-b"]], ["a", "-a"], [["a", "-b"]], "a"):
            self.assertIs(thing in rule, False)

    def test_any_object_in(self):
        for rule in (Rule(["a"], [["a"], ["-a"]]), Rule(["a"], []), Rule([], []), Rule(["a", "b"], [])):
            for thing in [*anything(), *no_lists()]:
                self.assertIs(thing in rule, False)

    def test_in_without_signs(self):
        self.assertIs([] in Rule([], [[]]), True)
        self.assertIs(() in Rule([], [[]]), True)
        self.assertIs([] in Rule([], []), False)
        self.assertIs({} in Rule([], [[]]), False)
        self.assertIs([] in Rule(["a"], [["a"]]), False)

    def test_equal(self):
        rule = Rule(["a", "b", "c"], [["a", "-b", "c"], ["-a", "b", "c"]])
        same = Rule(["c", "a", "b"], [["b", "c", "-a"], ["c", "-b", "a"]])
        self.assertIs(rule == same, True)
        self.assertIs(rule != same, False)
        for other in (~rule, Rule(["a", "b", "c"], []), rule - "c", rule | Rule(["d"], []), rule.turned("c"),
                      Rule(["a", "b", "d"], [["a", "-b", "d"], ["-a", "b", "d"]]),
                      Rule(["a", "b", "c"], [["a", "-b", "c"]]),
                      Rule(["a", "b", "c"], [["a", "-b", "c"], ["-a", "b", "c"], ["a", "b", "c"]])):
            self.assertIs(rule == other, False)
            self.assertIs(other == rule, False)
            self.assertIs(rule != other, True)

    def test_equals_nothing_else(self):
        for rule in (Rule([], []), Rule([], [[]]), Rule(["a"], [["a"]])):
            for thing in [*rule.settings(), rule.settings(), rule.signs(), 0, 1, True, None, "a", {}, len,
                          Code(rule.signs(), []), Code(rule.signs(), [rule.signs()])]:
                self.assertIs(rule == thing, False)
                self.assertIs(rule != thing, True)
        self.assertNotEqual(Rule([], []), Rule([], [[]]))
        self.assertNotEqual(Rule([], []), Rule(["a"], []))

    def test_all_small_rules(self):
        rows = all_full(["a", "b"])
        rules = [Rule(["a", "b"], part) for n in range(5) for part in itertools.combinations(rows, n)]
        turned = [Rule(["b", "a"], rule.settings()) for rule in rules]
        for k, rule in enumerate(rules):
            self.assertEqual([other == rule for other in turned], [at == k for at in range(len(rules))])


class RulesPutTogether(unittest.TestCase):
    """[3] Rules put together"""

    def setUp(self):
        self.rnd = seeded(3)

    def some_pair(self):
        ones = shuffled(self.rnd, SIX)[:self.rnd.randint(0, 4)]
        rest = [name for name in SIX if name not in ones]
        others = shuffled(self.rnd, shuffled(self.rnd, ones)[:2] + rest[:self.rnd.randint(0, 2)])
        return some_rule(self.rnd, ones), some_rule(self.rnd, others)

    def test_and_and_or(self):
        for _ in range(300):
            one, other = self.some_pair()
            names = one.signs() + [name for name in other.signs() if name not in one.signs()]
            rows = []
            for row in all_full(names):
                both = [[literal for literal in row if literal.strip("-") in rule.signs()] in rule
                        for rule in (one, other)]
                rows.append((row, both))
            before = [one.signs(), one.settings(), other.signs(), other.settings()]
            self.assertEqual((one & other).signs(), names)
            self.assertEqual((one & other).settings(), [row for row, both in rows if all(both)])
            self.assertEqual((one | other).signs(), names)
            self.assertEqual((one | other).settings(), [row for row, both in rows if any(both)])
            self.assertEqual([one.signs(), one.settings(), other.signs(), other.settings()], before)

    def test_six_and_seven_signs(self):
        one, other = Rule(["a", "b", "c", "d"], []), Rule(["d", "e", "f"], [])
        self.assertEqual((one & other).signs(), SIX)
        self.assertEqual((other | one).signs(), ["d", "e", "f", "a", "b", "c"])
        far = Rule(["e", "f", "g"], [])
        for joined in (lambda: one & far, lambda: one | far, lambda: far & one, lambda: far | one):
            with self.assertRaises(TooMany) as caught:
                joined()
            self.assertEqual(caught.exception.n, 7)
        with self.assertRaises(TooMany) as caught:
            Rule(SIX, []) & Rule(["g", "a", "h", "i", "j", "k"], [])
        self.assertEqual(caught.exception.n, 11)

    def test_not(self):
        for _ in range(100):
            rule = some_rule(self.rnd, shuffled(self.rnd, SIX)[:self.rnd.randint(0, 6)])
            rest = [row for row in all_full(rule.signs()) if row not in rule.settings()]
            self.assertEqual(((~rule).signs(), (~rule).settings()), (rule.signs(), rest))
        self.assertEqual((~Rule([], [])).settings(), [()])
        self.assertEqual((~Rule([], [[]])).settings(), [])

    def test_minus(self):
        for _ in range(100):
            rule = some_rule(self.rnd, shuffled(self.rnd, SIX)[:self.rnd.randint(1, 6)])
            name = self.rnd.choice(rule.signs())
            rest = [sign for sign in rule.signs() if sign != name]
            rows = [row for row in all_full(rest) if [*row, name] in rule or [*row, "-" + name] in rule]
            self.assertEqual(((rule - name).signs(), (rule - name).settings()), (rest, rows))
        self.assertEqual((Rule(["a"], [["-a"]]) - "a").settings(), [()])
        self.assertEqual((Rule(["a"], []) - "a").settings(), [])

    def test_turned(self):
        for _ in range(100):
            rule = some_rule(self.rnd, shuffled(self.rnd, SIX)[:self.rnd.randint(1, 6)])
            name = self.rnd.choice(rule.signs())
            rows = []
            for row in all_full(rule.signs()):
                if [opposite(literal) if literal.strip("-") == name else literal for literal in row] in rule:
                    rows.append(row)
            turned = rule.turned(name)
            self.assertEqual((turned.signs(), turned.settings()), (rule.signs(), rows))
            self.assertEqual(turned.turned(name=name), rule)

    def test_no_sign(self):
        for rule in (Rule(["a", "b"], [["a", "b"]]), Rule([], [[]])):
            for thing in [*anything(), "c", "-a", "-b", "ab", ["a"], ("b",), [], ()]:
                for asked in (lambda: rule - thing, lambda: rule.turned(thing)):
                    with self.assertRaises(NoSign) as caught:
                        asked()
                    self.assertIs(caught.exception.name, thing)

    def test_parts(self):
        for _ in range(300):
            names = shuffled(self.rnd, SIX)[:self.rnd.randint(0, 3)]
            one, other = some_rule(self.rnd, names), some_rule(self.rnd, shuffled(self.rnd, names))
            if self.rnd.random() < 0.5:
                other = other | one
            within = {frozenset(row) for row in one.settings()} <= {frozenset(row) for row in other.settings()}
            self.assertIs(one <= other, within)
            self.assertIs(other >= one, within)
            self.assertIs(one < other, within and len(one) < len(other))
            self.assertIs(other > one, within and len(one) < len(other))
            self.assertIs(one <= one, True)
            self.assertIs(one < one, False)

    def test_unlike_signs_are_no_parts(self):
        one, other = Rule(["a"], []), Rule(["a", "b"], [["a", "b"], ["-a", "b"]])
        for ones, others in ((one, other), (other, one), (one, Rule([], [[]])), (one, Rule(["b"], [["b"]]))):
            self.assertIs(ones <= others, False)
            self.assertIs(ones < others, False)


class HalfFilled(unittest.TestCase):
    """[4] Half-filled settings"""

    def test_forced(self):
        rnd = seeded(4)
        for n in range(5):
            for _ in range(20):
                names = shuffled(rnd, SIX)[:n]
                rule = some_rule(rnd, names)
                for setting in all_partial(names):
                    rows = [row for row in rule.settings() if set(setting) <= set(row)]
                    literals = [literal for name in names for literal in (name, "-" + name)]
                    rest = [literal for literal in literals
                            if literal not in setting and all(literal in row for row in rows)]
                    told = shuffled(rnd, setting)
                    before = list(told)
                    self.assertEqual(rule.forced(told), rest if rows else None)
                    self.assertEqual(rule.forced(setting=tuple(told)), rest if rows else None)
                    self.assertEqual(told, before)

    def test_edges(self):
        self.assertEqual(Rule([], [[]]).forced([]), [])
        self.assertIs(Rule([], []).forced([]), None)
        self.assertIs(Rule(["a"], []).forced(["-a"]), None)
        self.assertEqual(Rule(["a"], [["a"]]).forced(["a"]), [])
        self.assertEqual(Rule(["b", "a"], [["a", "-b"]]).forced(()), ["-b", "a"])

    def test_no_list(self):
        for thing in no_lists():
            with self.assertRaises(BadSetting) as caught:
                Rule(["a"], [["a"]]).forced(thing)
            self.assertEqual(caught.exception.index, 0)

    def test_wrong_things(self):
        wrong = [*anything(), [], (), ["b"], "c", "-c", "-", "--a", "a", "-a"]
        for thing in wrong:
            for setting, index in ((["a", thing, "b"], 1), (["-a", "b", thing], 2), (("a", thing, thing), 1)):
                with self.assertRaises(BadSetting) as caught:
                    Rule(["a", "b"], []).forced(setting)
                self.assertEqual(caught.exception.index, index)
        for setting, index in ((["x"], 0), (["a", "a"], 1), (["a", "-a"], 1), (["b", "a", "-b", 0], 2)):
            with self.assertRaises(BadSetting) as caught:
                Rule(["a", "b"], [["a", "b"]]).forced(setting)
            self.assertEqual(caught.exception.index, index)


class Consequences(unittest.TestCase):
    """[5] Consequences"""

    def test_edges(self):
        self.assertEqual(Rule([], [[]]).shortest(), [])
        self.assertEqual(Rule([], []).shortest(), [()])
        self.assertEqual(Rule(SIX, []).shortest(), [()])
        self.assertEqual(Rule(SIX, all_full(SIX)).shortest(), [])
        self.assertEqual(Rule(["b", "a"], [["a", "-b"]]).shortest(), [("-b",), ("a",)])

    def test_all_rules_of_three_signs(self):
        rows = all_full(["c", "a", "b"])
        for bits in range(256):
            rule = Rule(["c", "a", "b"], [row for k, row in enumerate(rows) if bits >> k & 1])
            self.assertEqual(rule.shortest(), plain_shortest(rule.signs(), rule.settings()))

    def test_some_rules(self):
        rnd = seeded(5)
        for n in (4, 4, 4, 4, 4, 5, 5, 5, 6, 6):
            rule = some_rule(rnd, shuffled(rnd, SIX)[:n])
            self.assertEqual(rule.shortest(), plain_shortest(rule.signs(), rule.settings()))

    def test_odd_and_even(self):
        even = Rule(SIX, [row for row in all_full(SIX) if sum(literal[0] == "-" for literal in row) % 2 == 0])
        self.assertEqual(even.shortest(), [tuple(opposite(literal) for literal in row)
                                           for row in reversed(all_full(SIX)) if row not in even])

    def test_tuples(self):
        found = Rule(["a", "b"], [["a", "b"], ["-a", "-b"]]).shortest()
        self.assertIsInstance(found, list)
        self.assertTrue(all(isinstance(clause, tuple) for clause in found))


if __name__ == "__main__":
    unittest.main()
