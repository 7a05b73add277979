"""Promises 18 to 20: fewest further clauses, fewest clauses at all, grown codes."""

import itertools
import unittest

from lastopen.codes import Code
from lastopen.errors import BadLevel, TooMany
from lastopen.mending import fewest, grown, least_code, needed
from lastopen.orders import needless
from lastopen.rules import Rule
from lastopen.seeing import blind, blind_count, sees
from lastopen.ways import direct, rows, whole
from tests.helping import (MANY, SEVEN, SIX, all_full, all_partial, anything, opposite, plain_blinds, plain_closure,
                           plain_forced, plain_rule, plain_shortest, seeded, shuffled, small_codes, some_rule)

CODE = Code(["a", "b"], [["a", "h"], ["a", "-h"], ["-a", "b"]], ["h"])
# all the same: from one of them all the others follow
SAME = Rule(["a", "b", "c", "d"], [["a", "b", "c", "d"], ["-a", "-b", "-c", "-d"]])


def plain_sees(signs, settings, clauses, level):
    """Whether following in these clauses finds what these settings tell."""
    for setting in all_partial(signs):
        so = plain_closure(clauses, setting)
        forced = plain_forced(settings, signs, setting)
        if so is not None and (forced is None or level != "dead" and not set(forced) <= so):
            return False
    return True


def plain_fewest(signs, settings, clauses, level):
    """All lists of shortest consequences, fewer first, then by their order."""
    shortest = plain_shortest(signs, settings)
    for size in range(len(shortest) + 1):
        for chosen in itertools.combinations(shortest, size):
            if plain_sees(signs, settings, [*clauses, *chosen], level):
                return list(chosen)


def some_rules(number, many, most):
    rnd = seeded(number)
    return [some_rule(rnd, shuffled(rnd, SIX)[:rnd.randint(0, most)]) for _ in range(many)]


class Fewest(unittest.TestCase):
    """[18] Fewest further clauses"""

    def check(self, code, level):
        before = code.clauses()
        settings = plain_rule(code.signs(), before, code.helpers())
        found = fewest(code, level)
        self.assertEqual(found, plain_fewest(code.signs(), settings, before, level))
        self.assertTrue(all(clause.__class__ is tuple for clause in found))
        self.assertTrue(sees(code.more(found), level))
        self.assertEqual(code.more(found).rule(), code.rule())
        self.assertEqual((fewest(code, level), code.clauses()), (found, before))
        return len(found)

    def test_by_all_lists(self):
        met = {"dead": [], "forced": []}
        for code in small_codes(1, 200):
            for level in met:
                if len(code.signs()) < 5:
                    met[level].append(self.check(code, level))
        self.assertTrue(max(met["dead"]) > 0 and max(met["forced"]) > 1)

    def test_ways_by_all_lists(self):
        for rule in some_rules(2, 40, 3):
            for code in (direct(rule), whole(rule), rows(rule, MANY[:len(rule)])):
                if len(code.helpers()) < 5:
                    for level in ("dead", "forced"):
                        self.check(code, level)

    def test_codes_that_lack_clauses_by_all_lists(self):
        rnd = seeded(3)
        for rule in some_rules(4, 25, 3):
            # helpers tell the rule, but following does not find much by them
            code = direct(rule)
            split = []
            for clause in code.clauses():
                name = rnd.choice(["x", "y"])
                split += [[*clause, name], [*clause, "-" + name]]
            for level in ("dead", "forced"):
                self.check(Code(rule.signs(), split, ["x", "y"]), level)

    def test_many_ways_to_do_it(self):
        names = SAME.signs()
        split = [[*clause, side] for clause in direct(SAME).clauses() for side in ("h", "-h")]
        code = Code(names, split, ["h"])
        found = fewest(code)
        self.assertEqual(len(SAME.shortest()), 12)
        self.assertEqual(found, plain_fewest(names, SAME.settings(), code.clauses(), "forced"))
        # as good in a ring; the first one of the rings
        self.assertEqual(found, [("a", "-b"), ("-a", "c"), ("b", "-d"), ("-c", "d")])
        self.assertEqual(len(fewest(code, "dead")), len(plain_fewest(names, SAME.settings(), code.clauses(), "dead")))

    def test_five_signs(self):
        rnd = seeded(5)
        for part in (0.2, 0.4, 0.5, 0.6, 0.8):
            rule = Rule(SIX[:5], [row for row in all_full(SIX[:5]) if rnd.random() < part])
            for level in ("dead", "forced"):
                found = fewest(direct(rule), level)
                self.assertTrue(sees(direct(rule).more(found), level))
                self.assertEqual(found, [clause for clause in rule.shortest() if clause in found])
                for clause in found:
                    rest = [other for other in found if other != clause]
                    self.assertFalse(sees(direct(rule).more(rest), level))
        ring = Rule(SIX[:5], [SIX[:5], ["-" + name for name in SIX[:5]]])
        self.assertEqual(fewest(Code(SIX[:5], [[*clause, side] for clause in direct(ring).clauses()
                                               for side in ("x", "-x")], ["x"])), least_code(ring).clauses())
        self.assertEqual(len(least_code(ring)), 5)

    def test_document(self):
        self.assertEqual(fewest(CODE), [("a",)])

    def test_edges(self):
        for level in ("dead", "forced"):
            self.assertEqual(fewest(Code([], []), level), [])
            self.assertEqual(fewest(Code([], [[]]), level), [])
            self.assertEqual(fewest(Code(SIX[:5], []), level), [])
            self.assertEqual(fewest(direct(Rule(["a", "b"], [])), level), [()])
            self.assertEqual(fewest(Code([], [["h", "k"], ["h", "-k"], ["-h", "k"], ["-h", "-k"]], ["h", "k"]), level),
                             [()])
            self.assertEqual(fewest(Code(["a"], [["a"], ["-a"]]), level), [])
        self.assertEqual((fewest(CODE, "dead"), fewest(CODE, "forced")), ([], [("a",)]))

    def test_default_level(self):
        for code in small_codes(6, 40):
            self.assertEqual(fewest(code), fewest(code, "forced"))

    def test_names_in_another_order(self):
        code = Code(["b", "a"], [["a", "b", "h"], ["a", "b", "-h"], ["a", "-b", "h"], ["a", "-b", "-h"]], ["h"])
        self.assertEqual(fewest(code), [("a",)])
        other = Code(["c", "b", "a"], [[*clause, side] for clause in (["a", "-b"], ["b", "-c"], ["c", "-a"])
                                       for side in ("h", "-h")], ["h"])
        self.assertEqual(fewest(other), plain_fewest(["c", "b", "a"], other.rule().settings(), other.clauses(), "forced"))
        self.assertEqual(fewest(other)[0], ("c", "-b"))

    def test_no_fewer_other_clauses_do_it(self):
        # the fact: clauses that are longer do not help
        for rule in some_rules(7, 12, 2):
            split = [[*clause, side] for clause in direct(rule).clauses() for side in ("x", "-x")]
            code = Code(rule.signs(), split, ["x"])
            found = fewest(code)
            clauses = [clause for clause in all_partial(rule.signs())
                       if all(set(clause) & set(row) for row in rule.settings())]
            for size in range(len(found)):
                for chosen in itertools.combinations(clauses, size):
                    self.assertFalse(sees(code.more(chosen)))

    def test_wrong_levels(self):
        for level in [*anything(), "all", "Dead", ["dead"], "forced "]:
            for code in (CODE, Code(SEVEN, []), Code(SIX, [], ["h"])):
                with self.assertRaises(BadLevel) as caught:
                    fewest(code, level)
                self.assertIs(caught.exception.level, level)

    def test_too_many(self):
        for names in (SEVEN, MANY):
            for level in ("dead", "forced"):
                with self.assertRaises(TooMany) as caught:
                    fewest(Code(names, [[]]), level)
                self.assertEqual(caught.exception.n, len(names))

    def test_by_name(self):
        self.assertEqual(fewest(level="dead", code=CODE), [])

    def test_lists_are_the_callers_own(self):
        fewest(CODE).append(1)
        self.assertEqual(fewest(CODE), [("a",)])


class Least(unittest.TestCase):
    """[19] Fewest clauses at all"""

    def test_needed_by_the_plain_way(self):
        for rule in some_rules(8, 60, 3):
            shortest = plain_shortest(rule.signs(), rule.settings())
            expected = []
            for clause in shortest:
                rest = [other for other in shortest if other != clause]
                found = [[plain_closure(part, setting) for setting in all_partial(rule.signs())]
                         for part in (shortest, rest)]
                expected += [clause] * (found[0] != found[1])
            self.assertEqual(needed(rule), expected)
            self.assertTrue(all(clause.__class__ is tuple for clause in needed(rule)))

    def test_needed_by_needless(self):
        for rule in some_rules(9, 40, 6):
            code = whole(rule)
            self.assertEqual(needed(rule), [clause for index, clause in enumerate(code.clauses())
                                            if index not in needless(code)])

    def test_least_by_all_lists(self):
        for rule in some_rules(10, 120, 3) + [SAME]:
            code = least_code(rule)
            self.assertIs(code.__class__, Code)
            self.assertEqual((code.signs(), code.helpers()), (rule.signs(), []))
            self.assertEqual(code.clauses(), plain_fewest(rule.signs(), rule.settings(), [], "forced"))
            self.assertEqual(code.rule(), rule)
            self.assertTrue(sees(code))

    def test_needed_ones_stand_in_it(self):
        for rule in some_rules(11, 60, 5):
            found = least_code(rule).clauses()
            self.assertTrue(set(needed(rule)) <= set(found) <= set(rule.shortest()))
            self.assertEqual(found, [clause for clause in rule.shortest() if clause in found])
            # within some clause of each code that is forced
            for code in (grown(direct(rule)), whole(rule)):
                for clause in needed(rule):
                    self.assertTrue(any(set(clause) <= set(other) for other in code.clauses()))

    def test_document(self):
        self.assertEqual(least_code(CODE.rule()).clauses(), [("a",), ("b",)])

    def test_edges(self):
        self.assertEqual(least_code(Rule([], [[]])), Code([], []))
        self.assertEqual(least_code(Rule([], [])), Code([], [[]]))
        self.assertEqual(least_code(Rule(["a", "b"], [])), Code(["a", "b"], [[]]))
        self.assertEqual(least_code(Rule(["a", "b"], all_full(["a", "b"]))), Code(["a", "b"], []))
        self.assertEqual((needed(Rule([], [])), needed(Rule([], [[]])), needed(Rule(SIX, []))), ([()], [], [()]))
        self.assertEqual(needed(SAME), [])
        self.assertEqual(least_code(SAME).clauses(), [("a", "-b"), ("-a", "c"), ("b", "-d"), ("-c", "d")])

    def test_parity_needs_all(self):
        rule = Rule(SIX, [row for row in all_full(SIX) if sum(literal[0] == "-" for literal in row) % 2])
        self.assertEqual((len(needed(rule)), needed(rule)), (32, rule.shortest()))
        self.assertEqual(least_code(rule).clauses(), rule.shortest())

    def test_asked_again(self):
        for rule in some_rules(12, 20, 5):
            self.assertEqual(least_code(rule).clauses(), least_code(rule).clauses())
            needed(rule).append(1)
            self.assertNotIn(1, needed(rule))

    def test_by_name(self):
        self.assertEqual((needed(rule=SAME), least_code(rule=SAME)), (needed(SAME), least_code(SAME)))


class Grown(unittest.TestCase):
    """[20] Grown"""

    def check(self, code):
        before = code.clauses()
        found = grown(code)
        plain = code
        while blind(plain) is not None:
            setting, literal = blind(plain)
            clause = [opposite(part) for part in setting] + [literal] * (literal is not None)
            self.assertIn(sorted(clause), [sorted(row) for row in code.rule().shortest()])
            plain = plain.more([clause])
        self.assertIs(found.__class__, Code)
        self.assertEqual((found.signs(), found.helpers(), found.clauses()),
                         (plain.signs(), plain.helpers(), plain.clauses()))
        self.assertEqual(found.clauses()[:len(before)], before)
        self.assertEqual((found.rule(), blind_count(found)), (code.rule(), 0))
        self.assertEqual(code.clauses(), before)
        return len(found) - len(before)

    def test_one_by_one(self):
        self.assertTrue(sum(self.check(code) for code in small_codes(13, 300)) > 30)

    def test_by_the_plain_way(self):
        for code in small_codes(14, 60):
            for clause in grown(code).clauses()[len(code):]:
                setting, literal = plain_blinds(code, "forced")[0]
                self.assertEqual(set(clause), {opposite(part) for part in setting} | {literal} - {None})
                code = code.more([clause])
            self.assertEqual(plain_blinds(code, "forced"), [])

    def test_ways(self):
        more = 0
        for rule in some_rules(15, 30, 5) + [some_rule(seeded(16), SIX)]:
            more += self.check(direct(rule))
            self.assertEqual(grown(whole(rule)).clauses(), rule.shortest())
            split = [[*clause, side] for clause in direct(rule).clauses() for side in ("x", "-x")]
            more += self.check(Code(rule.signs(), split, ["x"]))
        self.assertTrue(more > 100, more)

    def test_document(self):
        self.assertEqual(grown(CODE).clauses()[3:], [("a",)])

    def test_edges(self):
        self.assertEqual(grown(Code([], [])), Code([], []))
        self.assertEqual(grown(Code([], [[]])).clauses(), [()])
        self.assertEqual(grown(direct(Rule(["a", "b"], []))).clauses()[4:], [()])
        self.assertEqual(grown(Code(SIX, [])), Code(SIX, []))
        self.assertEqual(grown(Code([], [["h", "k"], ["h", "-k"]], ["h", "k"])).clauses(), [("h", "k"), ("h", "-k")])

    def test_two_at_one_setting(self):
        code = Code(["a", "b"], [[name, side] for name in ("a", "b") for side in ("h", "-h")], ["h"])
        self.assertEqual(grown(code).clauses()[4:], [("a",), ("b",)])

    def test_too_many(self):
        for names in (SEVEN, MANY):
            with self.assertRaises(TooMany) as caught:
                grown(Code(names, [[]], ["x"]))
            self.assertEqual(caught.exception.n, len(names))

    def test_by_name(self):
        self.assertEqual(grown(code=CODE), grown(CODE))


if __name__ == "__main__":
    unittest.main()
