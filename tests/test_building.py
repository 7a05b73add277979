"""Promises 21 to 24: helpers put out, hidden and set, either, lifted."""

import unittest

from lastopen.building import bare, either, hidden, lifted, put_out, set_to, sharpens
from lastopen.codes import Code
from lastopen.errors import BadLiteral, NoHelper, NoSign, UnlikeSigns
from lastopen.following import follow
from lastopen.mending import grown
from lastopen.rules import Rule
from lastopen.seeing import sees
from lastopen.ways import direct, rows, whole
from tests.helping import (LEVELS, MANY, SEVEN, SIX, all_full, all_partial, anything, fits, opposite, plain_blinds,
                           plain_closure, plain_rule, seeded, shuffled, small_codes, some_clauses, some_rule)

CODE = Code(["a", "b"], [["a", "h"], ["a", "-h"], ["-a", "b"]], ["h"])
EVEN = Rule(["a", "b"], [["a", "b"], ["-a", "-b"]])
LETTERS = "abcdefghijklmnopqrstuvwxyz"


def plain_put_out(code, name):
    """The clauses without this helper, by the words of [21]."""
    clauses = code.clauses()
    found = [set(clause) for clause in clauses if name not in clause and "-" + name not in clause]
    for one in clauses:
        for other in clauses:
            if name in one and "-" + name in other:
                join = (set(one) | set(other)) - {name, "-" + name}
                if not any(opposite(literal) in join for literal in join):
                    found.append(join)
    return [clause for at, clause in enumerate(found) if clause not in found[:at]]


def found_of(clauses, names):
    """What following finds about these names at each half-filled setting of them; None at dead ends."""
    found = []
    for setting in all_partial(names):
        so = plain_closure(clauses, setting)
        found.append(None if so is None else {literal for literal in so if literal.lstrip("-") in names})
    return found


def is_more(one, other):
    """Whether more is found in the first list somewhere, and whether less is."""
    more = less = False
    for mine, others in zip(one, other):
        if mine != others:
            more = more or others is not None and (mine is None or not mine <= others)
            less = less or mine is not None and (others is None or not others <= mine)
    return more, less


def some_named(number, many):
    """Random codes with at least one helper."""
    return [code for code in small_codes(number, many) if code.helpers()]


def plain_sees(code, level):
    return not plain_blinds(code, level)


class PutOut(unittest.TestCase):
    """[21] Helpers put out"""

    def test_by_the_plain_way(self):
        rnd = seeded(1)
        for code in some_named(2, 300):
            before = code.clauses()
            name = rnd.choice(code.helpers())
            found = put_out(code, name)
            self.assertIs(found.__class__, Code)
            self.assertEqual((found.signs(), found.helpers()),
                             (code.signs(), [other for other in code.helpers() if other != name]))
            self.assertEqual([set(clause) for clause in found.clauses()], plain_put_out(code, name))
            self.assertEqual(code.clauses(), before)

    def test_bare_puts_out_one_by_one(self):
        for code in small_codes(3, 300):
            plain = code
            for name in code.helpers():
                plain = put_out(plain, name)
            found = bare(code)
            self.assertEqual((found.signs(), found.helpers(), found.clauses()), (code.signs(), [], plain.clauses()))

    def test_written_out(self):
        code = Code(["a", "b"], [["h", "b"], ["-h", "a"], ["b"], ["-h", "-b"], ["h", "-a"], ["h"]], ["g", "h"])
        # ahead stands what has no h; b and -b, and a and -a, do not stand in one join
        self.assertEqual(put_out(code, "h").clauses(), [("b",), ("a", "b"), ("-a", "-b"), ("a",), ("-b",)])
        self.assertEqual(put_out(code, "h").helpers(), ["g"])
        self.assertEqual(put_out(code, "g").clauses(), code.clauses())
        self.assertEqual(bare(code).clauses(), put_out(code, "h").clauses())
        self.assertEqual(put_out(CODE, "h").clauses(), [("-a", "b"), ("a",)])

    def test_edges(self):
        self.assertEqual(put_out(Code([], [["h"], ["-h"]], ["h"]), "h").clauses(), [()])
        self.assertEqual(put_out(Code([], [["h"]], ["h"]), "h").clauses(), [])
        self.assertEqual(put_out(Code([], [], ["h"]), "h"), Code([], []))
        self.assertEqual(put_out(Code([], [[], ["h"], ["-h"]], ["h"]), "h").clauses(), [()])
        self.assertEqual((bare(Code([], [])), bare(Code(SEVEN, [[]]))), (Code([], []), Code(SEVEN, [[]])))
        # a join that stood before, among the clauses or the joins
        code = Code(["a", "b"], [["h", "a"], ["-h", "b"], ["a", "b"], ["h", "b"], ["-h", "a"]], ["h"])
        self.assertEqual(put_out(code, "h").clauses(), [("a", "b"), ("a",), ("b",)])

    def test_six_helpers(self):
        rnd = seeded(4)
        for _ in range(6):
            code = Code(SIX, some_clauses(rnd, SIX + MANY[:6], 24), MANY[:6])
            found = bare(code)
            self.assertEqual(found.rule(), code.rule())
            self.assertEqual(found.helpers(), [])

    def test_fact_the_rule_stays_and_nothing_is_lost(self):
        rnd = seeded(5)
        for code in some_named(6, 120):
            name = rnd.choice(code.helpers())
            found = put_out(code, name)
            self.assertEqual(plain_rule(code.signs(), found.clauses(), found.helpers()),
                             plain_rule(code.signs(), code.clauses(), code.helpers()))
            names = found.signs() + found.helpers()
            more, less = is_more(found_of(found.clauses(), names), found_of(code.clauses(), names))
            self.assertFalse(less)
            self.assertIs(sharpens(code, name), more)

    def test_fact_more_only_where_two_clauses_share_a_literal(self):
        rnd = seeded(7)
        met = [0, 0]
        for code in some_named(8, 250):
            name = rnd.choice(code.helpers())
            clauses = code.clauses()
            shared = any(set(one) & set(other) for one in clauses for other in clauses
                         if name in one and "-" + name in other)
            self.assertTrue(shared or not sharpens(code, name))
            met[shared] += sharpens(code, name)
        self.assertTrue(met[1] > 10)

    def test_fact_of_sharpens(self):
        rnd = seeded(9)
        sharp = 0
        for code in some_named(10, 250):
            name = rnd.choice(code.helpers())
            expected = False
            for clause in put_out(code, name).clauses():
                for literal in clause:
                    drawn = follow(code, [opposite(other) for other in clause if other != literal])
                    expected = expected or drawn is not None and literal not in drawn
                expected = expected or not clause and follow(code, []) is not None
            self.assertIs(sharpens(code, name), expected)
            sharp += expected
        self.assertTrue(15 < sharp < 200)

    def test_sharpens_written_out(self):
        self.assertIs(sharpens(CODE, "h"), True)
        self.assertIs(sharpens(Code(["a", "b"], [["a", "h"], ["-h", "b"]], ["h"]), "h"), False)
        self.assertIs(sharpens(Code(["a"], [["h"], ["-h"]], ["h"]), "h"), False)
        self.assertIs(sharpens(Code(["a"], [["a", "h"], ["a", "-h"], ["a"]], ["h"]), "h"), False)
        self.assertIs(sharpens(Code([], [], ["h"]), "h"), False)
        # it may be found by another helper, or only about one
        code = Code(["a"], [["a", "h"], ["a", "-h"], ["a", "k"], ["-k", "a"]], ["h", "k"])
        self.assertEqual([sharpens(code, name) for name in ("h", "k")], [True, True])
        code = Code([], [["k", "h"], ["k", "-h"]], ["h", "k"])
        self.assertEqual([sharpens(code, name) for name in ("h", "k")], [True, False])

    def test_no_helpers(self):
        for name in [*anything(), "a", "b", "c", "-h", ["h"], ("h",)]:
            for asked in (put_out, sharpens):
                with self.assertRaises(NoHelper) as caught:
                    asked(CODE, name)
                self.assertIs(caught.exception.name, name)

    def test_any_size(self):
        rule = Rule(SIX, all_full(SIX)[3:])
        code = rows(rule, MANY[:61])
        found = put_out(code, MANY[7])
        self.assertEqual([set(clause) for clause in found.clauses()], plain_put_out(code, MANY[7]))
        self.assertIs(sharpens(code, MANY[7]), False)
        other = lifted(either(whole(EVEN), whole(~EVEN)))
        self.assertEqual(put_out(other, other.helpers()[9]).rule(), other.rule())
        for name in other.helpers()[::7]:
            self.assertIn(sharpens(other, name), (True, False))

    def test_by_name(self):
        self.assertEqual(put_out(name="h", code=CODE), bare(code=CODE))
        self.assertIs(sharpens(name="h", code=CODE), True)


class HiddenAndSet(unittest.TestCase):
    """[22] Hidden and set"""

    def test_hidden(self):
        for code in small_codes(11, 200):
            for name in code.signs():
                found = hidden(code, name)
                self.assertIs(found.__class__, Code)
                self.assertEqual(found.signs(), [sign for sign in code.signs() if sign != name])
                self.assertEqual(found.helpers(), code.helpers() + [name])
                self.assertEqual([set(clause) for clause in found.clauses()], [set(row) for row in code.clauses()])
                self.assertEqual(found.rule(), code.rule() - name)

    def test_set_to(self):
        for code in small_codes(12, 200):
            for name in code.signs() + code.helpers():
                for literal in (name, "-" + name):
                    found = set_to(code, literal)
                    self.assertIs(found.__class__, Code)
                    self.assertEqual(found.signs(), [sign for sign in code.signs() if sign != name])
                    self.assertEqual(found.helpers(), [helper for helper in code.helpers() if helper != name])
                    expected = []
                    for clause in code.clauses():
                        rest = set(clause) - {opposite(literal)}
                        if literal not in clause and rest not in expected:
                            expected.append(rest)
                    self.assertEqual([set(clause) for clause in found.clauses()], expected)

    def test_set_signs_tell_the_rule(self):
        for code in small_codes(13, 100):
            for name in code.signs():
                for literal in (name, "-" + name):
                    allowed = [row for row in code.rule().settings() if literal in row]
                    self.assertEqual(set_to(code, literal).rule(), Rule(code.signs(), allowed) - name)

    def test_written_out(self):
        code = Code(["b", "a", "c"], [["a", "-b"], ["b", "c"], ["-a"], ["c", "h"]], ["h"])
        self.assertEqual(hidden(code, "b").clauses(), [("a", "-b"), ("c", "b"), ("-a",), ("c", "h")])
        self.assertEqual(hidden(code, "b").helpers(), ["h", "b"])
        self.assertEqual(set_to(code, "b").clauses(), [("a",), ("-a",), ("c", "h")])
        self.assertEqual(set_to(code, "a").clauses(), [("b", "c"), (), ("c", "h")])
        self.assertEqual(set_to(code, "-h").clauses(), [("-b", "a"), ("b", "c"), ("-a",), ("c",)])
        self.assertEqual(set_to(code, "-c").clauses(), [("-b", "a"), ("b",), ("-a",), ("h",)])
        self.assertEqual(hidden(Code(["a"], []), "a"), Code([], [], ["a"]))
        self.assertEqual(set_to(Code(["a"], [["a"]]), "-a"), Code([], [[]]))
        self.assertEqual(set_to(Code(["a"], [["a"]]), "a"), Code([], []))

    def test_facts(self):
        kept = {level: 0 for level in LEVELS}
        for code in small_codes(14, 250):
            for level in LEVELS:
                if not sees(code, level):
                    continue
                for name in code.signs():
                    kept[level] += 1
                    self.assertTrue(sees(hidden(code, name), level))
                    self.assertTrue(sees(set_to(code, name), level) and sees(set_to(code, "-" + name), level))
                if level == "all":
                    for name in code.helpers():
                        self.assertTrue(sees(set_to(code, name), level) and sees(set_to(code, "-" + name), level))
        self.assertTrue(min(kept.values()) > 100)

    def test_no_signs(self):
        for name in [*anything(), "h", "c", "-a", ["a"], ("a",)]:
            with self.assertRaises(NoSign) as caught:
                hidden(CODE, name)
            self.assertIs(caught.exception.name, name)

    def test_no_literals(self):
        for literal in [*anything(), "c", "-c", "--a", ["a"], ("h",), "a b"]:
            with self.assertRaises(BadLiteral) as caught:
                set_to(CODE, literal)
            self.assertIs(caught.exception.literal, literal)

    def test_nothing_is_changed(self):
        before = CODE.signs(), CODE.clauses(), CODE.helpers()
        hidden(CODE, "a"), set_to(CODE, "-h"), put_out(CODE, "h"), bare(CODE), lifted(CODE), either(CODE, CODE)
        self.assertEqual((CODE.signs(), CODE.clauses(), CODE.helpers()), before)

    def test_by_name(self):
        self.assertEqual(hidden(name="a", code=CODE), hidden(CODE, "a"))
        self.assertEqual(set_to(literal="-h", code=CODE), set_to(CODE, "-h"))


def dead_codes(number, many, most=4):
    """Codes that are "dead", not all of them "forced", by unlike ways; the first ones of unlike numbers of signs."""
    rnd = seeded(number)
    found = []
    for code in small_codes(number, many):
        if len(code.signs()) <= most and sees(code, "dead"):
            found.append(code)
    for size in (0, 0, 1, 1, 2, 2, 3, 3, 4):
        for rule in (some_rule(rnd, shuffled(rnd, SIX)[:size]), Rule(SIX[:size], []), ~Rule(SIX[:size], [])):
            split = [[*clause, "x"] for clause in rule.shortest()] + [["-x", "y"], ["-x", "-y"]]
            found.extend([whole(rule), direct(rule), rows(rule, MANY[:len(rule)]), Code(rule.signs(), split, ["x", "y"])])
    return [code for code in found if sees(code, "dead")]


class Built(unittest.TestCase):
    """What [23] and [24] have in common"""

    def check_new_names(self, code, given, bound):
        old = [name for other in given for name in other.signs() + other.helpers()]
        new = [name for name in code.helpers() if name not in old]
        for name in new:
            self.assertTrue(1 <= len(name) <= 8 and all(letter in LETTERS for letter in name))
        self.assertLessEqual(len(new), bound)
        return new

    def check_sight(self, code, rule, levels):
        self.assertEqual(code.rule(), rule)
        for level in levels:
            self.assertTrue(sees(code, level), level)
        if len(rule.signs()) < 3:
            # by the plain way, too; the many helpers are followed, too, but the rule is known
            for setting in all_partial(rule.signs()):
                so = plain_closure(code.clauses(), setting)
                forced = rule.forced(setting)
                if forced is None:
                    self.assertIsNone(so)
                elif "forced" in levels:
                    self.assertTrue(set(forced) <= so)


class Either(Built):
    """[23] Either"""

    def check(self, one, other):
        found = either(one, other)
        self.assertIs(found.__class__, Code)
        n = len(one.signs())
        h = len(one.helpers()) + len(other.helpers())
        many = sum(len(clause) for code in (one, other) for clause in code.clauses())
        self.assertEqual(found.signs(), one.signs())
        self.assertEqual(len(self.check_new_names(found, (one, other), 4 * n + 2 * h + 2)), len(found.helpers()))
        self.assertLessEqual(len(found), 12 * n + 3 * h + many + 3)
        is_forced = sees(one) and sees(other)
        self.check_sight(found, one.rule() | other.rule(), ("dead", "forced")[:1 + is_forced])
        return is_forced

    def test_drawn_codes(self):
        rnd = seeded(15)
        codes = dead_codes(16, 250)
        met = [0, 0]
        for one in codes:
            same = [other for other in codes if set(other.signs()) == set(one.signs())]
            for other in rnd.sample(same, min(2, len(same))):
                met[self.check(one, other)] += 1
        self.assertTrue(met[0] > 60 and met[1] > 150)

    def test_signs_in_another_order(self):
        rnd = seeded(17)
        for _ in range(25):
            names = shuffled(rnd, SIX)[:rnd.randint(2, 4)]
            one, other = some_rule(rnd, names), some_rule(rnd, shuffled(rnd, names))
            found = either(whole(one), whole(other))
            self.assertEqual(found.signs(), names)
            self.assertEqual(found.rule(), one | other)
            self.check(whole(one), rows(other, MANY[:len(other)]))

    def test_with_itself_and_helpers_of_the_same_names(self):
        for code in dead_codes(18, 60, 3):
            self.check(code, code)

    def test_six_signs(self):
        rnd = seeded(19)
        for _ in range(3):
            one, other = some_rule(rnd, SIX), some_rule(rnd, SIX[::-1])
            self.check(whole(one), whole(other))
            self.check(rows(one, MANY[:len(one)]), grown(direct(other)))

    def test_edges(self):
        nothing, all_of_it = Code([], [[]]), Code([], [])
        for one, other in ((nothing, nothing), (nothing, all_of_it), (all_of_it, nothing), (all_of_it, all_of_it)):
            self.assertTrue(self.check(one, other))
        nothing, all_of_it = Code(["a", "b"], [[]]), Code(["b", "a"], [])
        for one, other in ((nothing, nothing), (nothing, all_of_it), (all_of_it, nothing), (all_of_it, all_of_it),
                           (Code(["a", "b"], [["a"], ["-a"]]), nothing), (Code(["a", "b"], [["a"], []]), whole(EVEN))):
            self.assertTrue(self.check(one, other))

    def test_names_that_are_taken(self):
        # new names are found whatever names there are
        first = either(whole(EVEN), whole(EVEN)).helpers()
        self.assertTrue(len(first) > 8)
        code = Code(first[:2], [[first[3], first[0]]], first[2:8])
        self.check(code, Code(first[:2], [], first[5:12]))
        self.check(Code(["a"], [["a"]], first), Code(["a"], [["-a"]]))

    def test_either_of_either(self):
        one = either(whole(EVEN), whole(Rule(["a", "b"], [["a", "-b"]])))
        self.check(one, whole(Rule(["b", "a"], [["-a", "b"]])))
        self.check(one, one)
        self.check(lifted(one), one)

    def test_document(self):
        both = either(whole(EVEN), whole(~EVEN))
        self.assertEqual([both.signs(), len(both.rule()), sees(both)], [["a", "b"], 4, True])

    def test_unlike_signs(self):
        for one, other in ((["a"], ["b"]), (["a"], []), ([], ["a"]), (["a", "b"], ["a"]), (SEVEN, SIX)):
            with self.assertRaises(UnlikeSigns):
                either(Code(one, []), Code(other, [], ["x"]))
        with self.assertRaises(UnlikeSigns):
            either(Code(["a"], [], ["b"]), Code(["a", "b"], []))

    def test_by_name(self):
        one, other = Code(["a", "b"], [["a"]]), Code(["b", "a"], [["-a"]])
        self.assertEqual(either(other=other, one=one).signs(), ["a", "b"])
        self.assertEqual(either(other=one, one=other).signs(), ["b", "a"])

    def test_asked_again(self):
        one, other = whole(EVEN), whole(~EVEN)
        self.assertEqual(either(one, other).clauses(), either(one, other).clauses())


class Lifted(Built):
    """[24] Lifted"""

    def check(self, code):
        found = lifted(code)
        self.assertIs(found.__class__, Code)
        n, h = len(code.signs()), len(code.helpers())
        many = sum(len(clause) for clause in code.clauses())
        self.assertEqual(found.signs(), code.signs())
        self.assertTrue(set(code.helpers()) <= set(found.helpers()))
        self.assertTrue(all(clause in found for clause in code.clauses()))
        new = self.check_new_names(found, [code], 2 * n * (2 * n + 2 * h + 1))
        self.assertEqual(len(new) + h, len(found.helpers()))
        self.assertLessEqual(len(found) - len(code), 2 * n * (many + 3 * n + h + 3))
        self.check_sight(found, code.rule(), ("dead", "forced") if sees(code, "dead") else ())
        return sees(code)

    def test_dead_codes(self):
        met = [0, 0]
        for code in dead_codes(20, 250):
            met[self.check(code)] += 1
        self.assertTrue(min(met) > 20, met)

    def test_codes_that_are_not_dead_keep_their_rule(self):
        for code in small_codes(21, 60):
            self.check(code)

    def test_all_that_fits_goes_on_to_fit(self):
        # a setting of the code's own names goes with some setting of the further ones
        code = Code(["a"], [["a", "h"], ["-h", "a"]], ["h"])
        found = lifted(code)
        total = Code(found.signs() + code.helpers(), found.clauses(),
                     [name for name in found.helpers() if name != "h"])
        self.assertEqual([row for row in total.rule().settings()],
                         [row for row in all_full(["a", "h"]) if fits(row, code.clauses())])

    def test_six_signs(self):
        rnd = seeded(22)
        for _ in range(3):
            rule = some_rule(rnd, SIX)
            split = [[*clause, "x"] for clause in rule.shortest()] + [["-x", "y"], ["-x", "-y"]]
            for code in (whole(rule), Code(SIX, split, ["x", "y"])):
                self.assertTrue(sees(code, "dead"))
                self.check(code)

    def test_edges(self):
        for code in (Code([], []), Code([], [[]]), Code([], [["h"]], ["h"]), Code(["a"], []), Code(["a"], [[]]),
                     Code(["a"], [["a"], ["-a"]]), Code(["a", "b"], [["a"], []], ["h"])):
            self.check(code)
        self.assertEqual(lifted(Code([], [["h"]], ["h"])), Code([], [["h"]], ["h"]))

    def test_names_that_are_taken(self):
        first = lifted(CODE).helpers()
        code = Code(first[1:3], [[first[1], first[4]], [first[1], "-" + first[4]]], first[3:9])
        self.check(code)

    def test_lifted_again(self):
        code = lifted(CODE)
        self.assertEqual(lifted(code).rule(), CODE.rule())
        self.check(code)

    def test_document(self):
        self.assertEqual([put_out(CODE, "h").clauses(), sharpens(CODE, "h"), sees(put_out(CODE, "h")),
                          sees(lifted(CODE))], [[("-a", "b"), ("a",)], True, True, True])

    def test_by_name(self):
        self.assertEqual(lifted(code=CODE).clauses(), lifted(CODE).clauses())


if __name__ == "__main__":
    unittest.main()
