"""Promises 12 to 14: levels, seeing, and the facts of it."""

import unittest

from lastopen.codes import Code
from lastopen.errors import BadLevel, TooMany
from lastopen.following import follow
from lastopen.rules import Rule
from lastopen.seeing import blind, blind_count, sees
from lastopen.ways import direct, rows, whole
from tests.helping import (LEVELS, MANY, SEVEN, SIX, all_full, anything, opposite, plain_blinds, seeded, shuffled,
                           small_codes, some_clauses, some_rule)

CODE = Code(["a", "b"], [["a", "h"], ["a", "-h"], ["-a", "b"]], ["h"])


def some_rules(number, many):
    rnd = seeded(number)
    return [some_rule(rnd, shuffled(rnd, SIX)[:rnd.randint(0, 4)]) for _ in range(many)]


class Seeing(unittest.TestCase):
    """[13] Seeing, at the levels of [12]"""

    def check(self, code, level):
        blinds = plain_blinds(code, level)
        found = blind(code, level)
        self.assertEqual(found, blinds[0] if blinds else None)
        if found is not None:
            self.assertEqual((found.__class__, found[0].__class__), (tuple, tuple))
        self.assertIs(sees(code, level), not blinds)
        self.assertEqual(blind_count(code, level), len(blinds))
        return found

    def test_by_the_plain_way(self):
        met = {level: [0, 0, 0] for level in LEVELS}
        for code in small_codes(1, 400):
            for level in LEVELS:
                found = self.check(code, level)
                met[level][0 if found is None else 1 if found[1] is None else 2] += 1
        self.assertTrue(all(min(met[level][:2]) > 5 for level in LEVELS))
        self.assertTrue(met["dead"][2] == 0 and met["forced"][2] > 20 and met["all"][2] > 20)

    def test_ways(self):
        for rule in some_rules(2, 60):
            for code in (direct(rule), whole(rule)):
                for level in LEVELS:
                    self.check(code, level)

    def test_without_one_clause(self):
        # each clause of these is needed somewhere, so this is blind at few settings
        for rule in some_rules(3, 25):
            code = whole(rule)
            for index in range(len(code)):
                for level in LEVELS:
                    self.check(code.less(index), level)

    def test_document(self):
        self.assertEqual([blind(CODE), sees(CODE, "dead"), blind_count(CODE)], [((), "a"), True, 2])

    def test_default_level(self):
        for code in small_codes(4, 30):
            self.assertEqual((blind(code), sees(code), blind_count(code)),
                             (blind(code, "forced"), sees(code, "forced"), blind_count(code, "forced")))

    def test_by_name(self):
        self.assertEqual(blind(level="forced", code=CODE), ((), "a"))
        self.assertIs(sees(level="dead", code=CODE), True)
        self.assertEqual(blind_count(level="forced", code=CODE), 2)

    def test_levels_differ(self):
        # a dead end at -a is met, but a is not drawn
        self.assertEqual([sees(CODE, level) for level in LEVELS], [True, False, False])
        # only a helper is not drawn
        code = Code(["a"], [["h", "k"], ["h", "-k"]], ["h", "k"])
        self.assertEqual([blind(code, level) for level in LEVELS], [None, None, ((), "h")])
        # a dead end that is not met at nothing, and one at settings
        code = Code(["a"], [["h", "k"], ["h", "-k"], ["-h", "k"], ["-h", "-k"]], ["h", "k"])
        self.assertEqual([blind(code, level) for level in LEVELS], [((), None)] * 3)
        self.assertEqual([blind_count(code, level) for level in LEVELS], [3, 3, 3])

    def test_first_in_the_order_of_lists(self):
        # -c forces b and a, just as well as -b forces -a and c: the order of the signs decides
        names = ["c", "b", "a"]
        code = direct(Rule(names, [["c", "b", "a"], ["-c", "b", "a"], ["c", "-b", "-a"]]))
        self.assertEqual([blind(code, level) for level in LEVELS], [None, (("-c",), "b"), (("-c",), "b")])
        # fewer literals come ahead of more
        code = Code(["a", "b", "c", "d"], [["a", "b", "c"], ["a", "b", "-c"], ["d", "c", "a"], ["d", "-c"]])
        self.assertEqual(blind(code), (("-a",), "b"))
        self.assertEqual(blind(Code(["b", "a"], [["b", "a"], ["b", "-a"]])), ((), "b"))
        # a name comes ahead of its opposite, and both ahead of the next name
        pair = [["a", "c", "b"], ["a", "c", "-b"], ["-a", "c", "d"], ["-a", "c", "-d"]]
        code = Code(["a", "b", "c", "d"], [*pair, ["-c", "b", "d"], ["-c", "b", "-d"]])
        self.assertEqual(blind(code), plain_blinds(code, "forced")[0])
        self.assertEqual(blind(direct(Rule(["a", "b"], [["a", "b"]]))), ((), "a"))
        self.assertEqual(blind(direct(Rule(["a", "b", "c"], [["a", "b", "c"]])), "dead"), (("-a",), None))
        self.assertEqual(blind(direct(Rule(["a", "b", "c"], [["-a", "-b", "c"]])), "dead"), (("a",), None))

    def test_edges(self):
        for level in LEVELS:
            self.assertIsNone(blind(Code([], []), level))
            self.assertIsNone(blind(Code([], [[]]), level))
            self.assertIsNone(blind(Code(SIX, []), level))
            self.assertIsNone(blind(Code(SIX, [[]]), level))
            self.assertEqual(blind_count(Code(SIX, [[]]), level), 0)
            self.assertIsNone(blind(Code(["a"], [["a"], ["-a"]]), level))
            self.assertEqual(blind(direct(Rule(["a", "b"], [])), level), ((), None))
            self.assertEqual(blind_count(direct(Rule(["a", "b"], [])), level), 1)
            # those with at most four of the six literals
            self.assertEqual(blind_count(direct(Rule(SIX, [])), level), 1 + 12 + 60 + 160 + 240)

    def test_six_names(self):
        rnd = seeded(5)
        for _ in range(3):
            rule = some_rule(rnd, SIX)
            for level in LEVELS:
                self.check(direct(rule), level)
        names = shuffled(rnd, SIX)
        code = Code(names[:3], some_clauses(rnd, names, 14), names[3:])
        for level in LEVELS:
            self.check(code, level)

    def test_many_helpers(self):
        # a chain of helpers that draws one way, and meets a dead end the other way
        helpers = MANY[:20]
        links = [["-a", helpers[0]]] + [["-" + one, other] for one, other in zip(helpers, helpers[1:])]
        code = Code(["a", "b"], links + [["-" + helpers[-1], "b"]], helpers)
        self.assertTrue(sees(code) and sees(code, "dead"))
        code = Code(["a", "b"], links + [["-" + helpers[-1], "b", "-a"], ["-" + helpers[-1], "b", "a"]], helpers)
        self.assertEqual((blind(code), sees(code, "dead"), blind_count(code)), ((("-b",), "-a"), True, 1))
        code = Code(["a", "b", "c"], links + [["-" + helpers[-1], "b", "c"], ["-" + helpers[-1], "b", "-c"]], helpers)
        self.assertEqual((blind(code), blind_count(code)), ((("a",), "b"), 2))
        self.assertTrue(sees(code, "dead"))

    def test_nothing_is_changed(self):
        code = Code(["a", "b"], [["a", "h"], ["a", "-h"], ["-a", "b"]], ["h"])
        for level in LEVELS:
            blind(code, level), sees(code, level), blind_count(code, level)
        self.assertEqual((code, code.clauses()), (CODE, CODE.clauses()))


class Levels(unittest.TestCase):
    """[12] Levels"""

    def raised(self, error, code, level):
        found = []
        for asked in (blind, sees, blind_count):
            with self.assertRaises(error) as caught:
                asked(code, level)
            self.assertIs(caught.exception.__class__, error)
            found.append(caught.exception)
        return found

    def test_wrong_levels(self):
        wrong = [*anything(), "Dead", "deaf", "forced ", "total", ["dead"], ("forced",), {"all": 1}, "dead forced"]
        for level in wrong:
            # ahead of too many signs
            for code in (CODE, Code([], []), Code(SEVEN, [])):
                for error in self.raised(BadLevel, code, level):
                    self.assertIs(error.level, level)

    def test_too_many_signs(self):
        names = [x + y for x in "abcdefgh" for y in "abcdefgh"]
        for n in (7, 8, 20, 64):
            for level in LEVELS:
                for error in self.raised(TooMany, Code(names[:n], [[]]), level):
                    self.assertEqual(error.n, n)

    def test_helpers_count_for_all(self):
        code = Code(SIX, [["h", "a"], ["h", "-a"]], ["h"])
        for error in self.raised(TooMany, code, "all"):
            self.assertEqual(error.n, 7)
        for error in self.raised(TooMany, Code([], [], MANY[:20]), "all"):
            self.assertEqual(error.n, 20)
        for error in self.raised(TooMany, Code(SEVEN, [], ["h"]), "forced"):
            self.assertEqual(error.n, 7)
        self.assertTrue(sees(code, "dead") and sees(code))
        self.assertTrue(sees(Code(SEVEN[:3], [], SEVEN[3:6]), "all"))
        self.assertTrue(sees(Code([], [], MANY[:20])))


class Facts(unittest.TestCase):
    """[14] FACTS"""

    def test_shortest_consequences_decide(self):
        for code in small_codes(6, 150):
            rule = code.rule()
            draws = dead = True
            for clause in rule.shortest():
                dead = dead and follow(code, [opposite(literal) for literal in clause]) is None
                for literal in clause:
                    drawn = follow(code, [opposite(other) for other in clause if other != literal])
                    draws = draws and (drawn is None or literal in drawn)
            if not len(rule):
                draws = dead
            self.assertEqual((sees(code), sees(code, "dead")), (draws, dead))

    def test_first_blind_setting(self):
        for code in small_codes(7, 150):
            for level in LEVELS:
                found = blind(code, level)
                if found is not None:
                    rule = code.total() if level == "all" else code.rule()
                    denied = [opposite(literal) for literal in found[0]]
                    clause = denied + [found[1]] * (found[1] is not None)
                    self.assertIn(sorted(clause), [sorted(row) for row in rule.shortest()])

    def test_levels_hold_each_other(self):
        for code in small_codes(8, 150):
            self.assertTrue(sees(code, "forced") or not sees(code, "all"))
            self.assertTrue(sees(code, "dead") or not sees(code, "forced"))
            names = code.signs() + code.helpers()
            total = Code(names, code.clauses())
            self.assertEqual(sees(code, "all"), sees(total, "forced"))

    def test_whole_codes_are_all(self):
        rnd = seeded(9)
        for rule in some_rules(10, 60) + [some_rule(rnd, SIX) for _ in range(12)]:
            self.assertTrue(sees(whole(rule), "all"))
            self.assertEqual(blind_count(whole(rule), "all"), 0)

    def test_rows_codes_are_all(self):
        small = [rule for rule in some_rules(11, 200) if len(rule) + len(rule.signs()) <= 6]
        self.assertTrue(len(small) > 40)
        for rule in small:
            self.assertTrue(sees(rows(rule, MANY[:len(rule)]), "all"))

    def test_rows_codes_of_any_size_are_forced(self):
        rnd = seeded(12)
        for rule in [some_rule(rnd, SIX) for _ in range(10)] + [Rule(SIX, all_full(SIX)[1:])]:
            code = rows(rule, MANY[:len(rule)])
            self.assertTrue(sees(code) and sees(code, "dead"))
            self.assertEqual(blind_count(code), 0)


if __name__ == "__main__":
    unittest.main()
