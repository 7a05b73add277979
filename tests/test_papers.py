"""Promise 15: papers."""

import copy
import unittest

from lastopen.codes import Code
from lastopen.errors import BadLevel, Blind, TooMany
from lastopen.following import drawings
from lastopen.papers import is_paper, paper
from lastopen.rules import Rule
from lastopen.seeing import blind, sees
from lastopen.ways import direct, rows, whole
from tests.helping import (LEVELS, MANY, SEVEN, SIX, all_full, anything, fits, opposite, plain_rule, plain_shortest,
                           seeded, shuffled, small_codes, some_rule)

CODE = Code(["a", "b"], [["a", "h"], ["a", "-h"], ["-a", "b"]], ["h"])
EVEN = whole(Rule(["a", "b"], [["a", "b"], ["-a", "-b"]]))


def level_names(code, level):
    return code.signs() + (code.helpers() if level == "all" else [])


def literals_of(names):
    return [literal for name in names for literal in (name, "-" + name)]


def plain_drawings(code, setting, pairs):
    """Whether these are drawings from the setting, by the words of [11]."""
    if not isinstance(pairs, (list, tuple)):
        return False
    so = set(setting)
    for at, pair in enumerate(pairs):
        if not isinstance(pair, (list, tuple)) or len(pair) != 2:
            return False
        index, literal = pair
        if index.__class__ is not int or not 0 <= index < len(code):
            return False
        left = [part for part in code.clauses()[index] if opposite(part) not in so]
        if so & set(left) or left != ([] if literal is None else [literal]):
            return False
        if literal is None and at < len(pairs) - 1:
            return False
        so.add(literal)
    return True


def is_row(names, thing):
    return (isinstance(thing, (list, tuple)) and all(isinstance(part, str) for part in thing)
            and sorted(part.lstrip("-") for part in thing) == sorted(names)
            and all(part in literals_of(names) for part in thing))


def plain_step(code, names, thing):
    """Whether this is a right triple."""
    if not isinstance(thing, (list, tuple)) or len(thing) != 3:
        return False
    clause, literal, pairs = thing
    if not isinstance(clause, (list, tuple)) or not all(isinstance(part, str) for part in clause):
        return False
    if not all(part in literals_of(names) for part in clause):
        return False
    if len({part.lstrip("-") for part in clause}) < len(clause):
        return False
    if literal is not None and not (isinstance(literal, str) and literal in clause):
        return False
    given = [opposite(part) for part in clause if part != literal]
    return plain_drawings(code, given, pairs) and len(pairs) > 0 and pairs[-1][1] in (None, literal)


def plain_paper(code, thing, level):
    """Whether this is a paper, by the words of [15]."""
    names = level_names(code, level)
    if not isinstance(thing, (list, tuple)) or len(thing) != 2:
        return False
    if not all(isinstance(part, (list, tuple)) for part in thing):
        return False
    shown, steps = thing
    for row in shown:
        if not is_row(code.signs() + code.helpers(), row) or not fits(row, code.clauses()):
            return False
    parts = [tuple(literal for literal in literals_of(names) if literal in row) for row in shown]
    if len(set(parts)) < len(parts) or not all(plain_step(code, names, step) for step in steps):
        return False
    for row in all_full(names):
        if row not in parts and all(set(row) & set(step[0]) for step in steps):
            return False
    told = [(sorted(step[0]), step[1]) for step in steps]
    for clause in plain_shortest(names, parts):
        asked = [None] if level == "dead" or not clause else clause
        if not all((sorted(clause), literal) in told for literal in asked):
            return False
    return True


def all_papers(number, many):
    """Codes that see, with the level and a paper."""
    found = []
    for code in small_codes(number, many):
        for level in LEVELS:
            if sees(code, level):
                found.append((code, level, paper(code, level)))
    rnd = seeded(number)
    for size in (0, 1, 2, 3, 3, 4):
        rule = some_rule(rnd, shuffled(rnd, SIX)[:size])
        for level in LEVELS:
            found.append((whole(rule), level, paper(whole(rule), level)))
    return found


class Papers(unittest.TestCase):
    """[15] Papers, as paper makes them"""

    def check(self, code, level):
        names = level_names(code, level)
        allowed = plain_rule(names, code.clauses(), [] if level == "all" else code.helpers())
        made = paper(code, level)
        self.assertEqual([part.__class__ for part in (made, *made)], [tuple, list, list])
        shown, steps = made
        every = literals_of(code.signs() + code.helpers())
        for row in shown:
            self.assertIs(row.__class__, tuple)
            self.assertEqual([every.index(literal) // 2 for literal in row], list(range(len(every) // 2)))
            self.assertTrue(fits(row, code.clauses()))
        self.assertEqual([row[:len(names)] for row in shown], allowed)
        expected = []
        for clause in plain_shortest(names, allowed):
            expected.extend((clause, literal) for literal in (clause if clause and level != "dead" else [None]))
        self.assertEqual([step[:2] for step in steps], expected)
        for step in steps:
            clause, literal, pairs = step
            self.assertEqual((step.__class__, clause.__class__, pairs.__class__), (tuple, tuple, list))
            self.assertTrue(all(pair.__class__ is tuple for pair in pairs))
            self.assertTrue(plain_step(code, names, step))
            self.assertTrue(all(pair[1] not in (None, literal) for pair in pairs[:-1]))
        self.assertTrue(plain_paper(code, made, level))
        self.assertIs(is_paper(code, made, level), True)
        self.assertEqual(paper(code, level), made)

    def test_of_drawn_codes(self):
        seen = {level: 0 for level in LEVELS}
        for code in small_codes(1, 250):
            for level in LEVELS:
                if sees(code, level):
                    seen[level] += 1
                    self.check(code, level)
        self.assertTrue(min(seen.values()) > 40)

    def test_of_ways(self):
        rnd = seeded(2)
        for size in (0, 1, 2, 3, 4, 4, 5):
            rule = some_rule(rnd, shuffled(rnd, SIX)[:size])
            for level in LEVELS:
                self.check(whole(rule), level)
            if len(rule) < 7:
                for level in ("dead", "forced"):
                    self.check(rows(rule, MANY[:len(rule)]), level)

    def test_six_names(self):
        for rule in (some_rule(seeded(3), SIX), Rule(SIX, all_full(SIX)[1:]), Rule(SIX, [])):
            for level in LEVELS:
                self.check(whole(rule), level)

    def test_codes_that_do_not_see(self):
        blinds = 0
        for code in small_codes(4, 250):
            for level in LEVELS:
                told = blind(code, level)
                if told is not None:
                    blinds += 1
                    with self.assertRaises(Blind) as caught:
                        paper(code, level)
                    self.assertEqual((caught.exception.setting, caught.exception.literal), told)
                    self.assertIs(caught.exception.setting.__class__, tuple)
        self.assertTrue(blinds > 100)
        for level, told in (("forced", ((), "a")), ("all", ((), "a"))):
            with self.assertRaises(Blind) as caught:
                paper(CODE, level)
            self.assertEqual((caught.exception.setting, caught.exception.literal), told)

    def test_document(self):
        shown, steps = paper(EVEN)
        self.assertEqual([shown, len(steps), is_paper(EVEN, (shown, steps)), is_paper(EVEN, (shown, []))],
                         [[("a", "b"), ("-a", "-b")], 4, True, False])

    def test_written_out(self):
        self.assertEqual(paper(EVEN), ([("a", "b"), ("-a", "-b")], [
            (("a", "-b"), "a", [(0, "a")]), (("a", "-b"), "-b", [(0, "-b")]),
            (("-a", "b"), "-a", [(1, "-a")]), (("-a", "b"), "b", [(1, "b")])]))
        self.assertEqual(paper(EVEN, "dead")[1][0][:2], (("a", "-b"), None))
        self.assertEqual(len(paper(EVEN, "dead")[1]), 2)
        code = Code(["a"], [["-a", "h"], ["-a", "-h"]], ["h"])
        self.assertEqual(paper(code, "dead")[0][0][:1], ("-a",))
        with self.assertRaises(Blind):
            paper(code)

    def test_edges(self):
        for level in LEVELS:
            self.assertEqual(paper(Code([], []), level), ([()], []))
            self.assertEqual(paper(Code([], [[]]), level), ([], [((), None, [(0, None)])]))
            self.assertEqual(paper(Code(["a"], [["a"], []]), level)[0], [])
            self.assertEqual(paper(Code(["a"], []), level), ([("a",), ("-a",)], []))
            self.assertEqual(paper(Code(["a"], [["a"], ["-a"]]), level)[0], [])
            self.assertEqual([step[:2] for step in paper(Code(["a"], [["a"], ["-a"]]), level)[1]], [((), None)])
        self.assertEqual(paper(Code(["b"], [["b"]])), ([("b",)], [(("b",), "b", [(0, "b")])]))
        self.assertEqual(paper(Code(["b"], [["b"]]), "dead"), ([("b",)], [(("b",), None, [(0, None)])]))

    def test_default_level(self):
        for code in small_codes(5, 60):
            if sees(code):
                self.assertEqual(paper(code), paper(code, "forced"))
                self.assertIs(is_paper(code, paper(code)), True)

    def test_by_name(self):
        made = paper(level="dead", code=EVEN)
        self.assertEqual(made, paper(EVEN, "dead"))
        self.assertIs(is_paper(level="dead", thing=made, code=EVEN), True)

    def test_copies(self):
        made = paper(EVEN)
        made[0].append(1)
        made[1][0][2].append(1)
        made[1].clear()
        self.assertEqual(len(paper(EVEN)[1]), 4)
        self.assertEqual(paper(EVEN)[1][0][2], [(0, "a")])
        shown, steps = paper(EVEN)
        thing = [list(shown), [list(step) for step in steps]]
        before = copy.deepcopy(thing)
        self.assertIs(is_paper(EVEN, thing), True)
        self.assertEqual(thing, before)


class WrongLevels(unittest.TestCase):
    """The levels of [12]"""

    def test_levels(self):
        for level in [*anything(), "Dead", ["dead"], ("all",), "forced "]:
            for code in (EVEN, CODE, Code(SEVEN, [])):
                for asked in (lambda: paper(code, level), lambda: is_paper(code, 0, level)):
                    with self.assertRaises(BadLevel) as caught:
                        asked()
                    self.assertIs(caught.exception.level, level)

    def test_too_many(self):
        blind_code = Code(SIX, [["h", "a"], ["h", "-a"]], ["h"])
        cases = [(Code(SEVEN, []), "dead", 7), (Code(SEVEN, [["a", "b"], ["a", "-b"]]), "forced", 7),
                 (blind_code, "all", 7), (Code([], [], MANY[:20]), "all", 20), (Code(MANY[:40], []), "forced", 40)]
        for code, level, n in cases:
            for asked in (lambda: paper(code, level), lambda: is_paper(code, [[], []], level),
                          lambda: is_paper(code, 0, level)):
                with self.assertRaises(TooMany) as caught:
                    asked()
                self.assertEqual(caught.exception.n, n)
        self.assertTrue(is_paper(blind_code, paper(blind_code)))


class IsPaper(unittest.TestCase):
    """[15] Papers, told of any objects"""

    def check(self, code, right, wrong, level="forced"):
        for thing in right:
            self.assertIs(is_paper(code, thing, level), True, thing)
        for thing in wrong:
            self.assertIs(is_paper(code, thing, level), False, thing)

    def test_any_objects(self):
        shown, steps = paper(EVEN)
        for thing in anything():
            wrong = [thing, [thing], [shown, thing, steps], [shown, steps, thing], [thing, thing]]
            if thing not in ([], ()):
                wrong.extend([[shown, thing], [thing, steps]])
            wrong.extend([[shown + [thing], steps], [shown, steps + [thing]], [[thing], steps], [shown, [thing]]])
            self.check(EVEN, [], wrong)
            clause, literal, pairs = steps[0]
            self.check(EVEN, [], [[shown, [step, *steps[1:]]] for step in (
                (thing, literal, pairs), (clause, thing, pairs), (clause, literal, thing), (clause, literal),
                (clause, literal, pairs, thing), (clause, literal, [thing]), (clause, literal, pairs + [thing]),
                ([thing, "-b"], literal, pairs))])
            if thing.__class__ is not int or thing != 0:
                self.check(EVEN, [], [[shown, [(clause, literal, [(thing, literal)]), *steps[1:]]]])
            self.check(EVEN, [], [[shown, [(clause, literal, [(0, thing)]), *steps[1:]]],
                                  [[("a", thing), ("-a", "-b")], steps]])

    def test_lists_for_tuples(self):
        shown, steps = paper(EVEN)
        lists = [[list(row) for row in shown],
                 [[list(clause), literal, [list(pair) for pair in pairs]] for clause, literal, pairs in steps]]
        tuples = (tuple(shown), tuple((clause, literal, tuple(pairs)) for clause, literal, pairs in steps))
        self.check(EVEN, [lists, tuples, (shown, tuples[1]), [tuples[0], lists[1]]], [])

    def test_a_thing_out_or_twice(self):
        for code, level, (shown, steps) in all_papers(6, 120):
            for at in range(len(shown)):
                less = shown[:at] + shown[at + 1:]
                self.assertIs(is_paper(code, (less, steps), level), False)
                self.assertIs(is_paper(code, (shown + [shown[at]], steps), level), False)
            for at in range(len(steps)):
                less = steps[:at] + steps[at + 1:]
                self.assertIs(is_paper(code, (shown, less), level), False)
                self.assertIs(is_paper(code, (shown, steps + [steps[at]]), level), True)
            self.assertIs(is_paper(code, (shown[::-1], steps[::-1]), level), True)

    def test_settings_that_do_not_fit(self):
        code = Code(["a", "b"], [["-a", "h"], ["-h", "b"]], ["h"])
        shown, steps = paper(code)
        self.assertEqual([row[:2] for row in shown], [("a", "b"), ("-a", "b"), ("-a", "-b")])
        right = [["h", "b", "a"], ["-a", "b", "h"], ["-b", "-h", "-a"]]
        self.check(code, [(right, steps), ([right[0], ("b", "-h", "-a"), right[2]], steps)], [
            ([*right, ("b", "-h", "-a")], steps),
            ([("a", "b", "-h"), *right[1:]], steps),
            ([("a", "b"), *right[1:]], steps),
            ([("a", "b", "h", "h"), *right[1:]], steps),
            ([("a", "b", "h", "c"), *right[1:]], steps),
            ([("a", "-a", "h"), *right[1:]], steps),
            ([*right, ("a", "-b", "h")], steps)])

    def test_the_same_in_the_names_of_the_level(self):
        code = Code(["a"], [["a", "h", "-k"]], ["h", "k"])
        both = [("a", "h", "k"), ("-a", "h", "k")]
        self.check(code, [(both, []), (both[::-1], [])], [([*both, ("-a", "-h", "-k")], []), (both[:1], [])])
        shown, steps = paper(code, "all")
        self.assertEqual(len(shown), 7)
        self.check(code, [(shown, steps)], [(both, []), (both, steps), (shown, [])], "all")

    def test_clauses_that_are_no_consequences_or_not_shortest(self):
        rule = Rule(["a", "b", "c"], [["a", "b", "c"], ["a", "b", "-c"]])
        code = whole(rule)
        shown, steps = paper(code)
        self.assertEqual([step[:2] for step in steps], [(("a",), "a"), (("b",), "b")])
        longer = [(("a", "c"), "a", [(0, "a")]), (("c", "a"), "c", [(0, None)]), (("a", "c"), None, [(0, None)])]
        self.check(code, [(shown, steps + longer), (shown, longer + steps)], [
            (shown, [longer[0], steps[1]]), (shown, longer[:2] + steps[1:]),
            (shown, steps + [(("c",), "c", [(0, "a")])]), (shown, steps + [(("c",), "c", [])]),
            (shown, steps + [(("a", "c"), "b", [(1, "b")])]), (shown, steps + [(("a", "c"), "-a", [(0, "a")])]),
            (shown, steps + [(("a", "-a"), "a", [(0, "a")])]), (shown, steps + [(("a", "d"), "a", [(0, "a")])])])

    def test_clauses_in_another_order(self):
        shown, steps = paper(EVEN)
        turned = [(clause[::-1], literal, pairs) for clause, literal, pairs in steps]
        self.check(EVEN, [(shown, turned), (shown, turned[:2] + steps[2:]), (shown, turned + steps)], [])
        self.check(EVEN, [], [(shown, turned[:2] + steps[:2])])

    def test_drawings_that_do_not_end_as_they_must(self):
        code = Code(["a", "b", "c"], [["-a", "b"], ["-b", "c"], ["-a", "c"]])
        shown, steps = paper(code)
        at = [step[:2] for step in steps].index((("-a", "c"), "c"))
        for pairs, right in (([(0, "b"), (1, "c")], True), ([(2, "c")], True), ([(2, "c"), (0, "b")], False),
                             ([(0, "b"), (2, "c")], True), ([(0, "b")], False), ([], False), ([(1, "c")], False),
                             ([(2, "c"), (2, "c")], False), ([(2, None)], False), ([(0, "b"), (1, None)], False),
                             ([(2, "c"), (0, None)], False), ([(0, "b"), (0, "b"), (1, "c")], False)):
            changed = [*steps[:at], (("-a", "c"), "c", pairs), *steps[at + 1:]]
            self.assertIs(is_paper(code, (shown, changed)), right, pairs)
        # a dead end tells as much as the literal
        code = Code(["a"], [["a"], ["h", "a"], ["-h", "a"]], ["h"])
        shown, steps = paper(code)
        self.check(code, [(shown, [(("a",), "a", [(0, "a")])])], [(shown, [(("a",), None, [(0, None)])])])
        self.check(code, [(shown, [(("a",), None, [(0, None)])]), (shown, [(("a",), None, [(1, "h"), (2, None)])])],
                   [(shown, [(("a",), "a", [(0, "a")])]), (shown, [(("a",), None, [(1, "h")])])], "dead")
        code = Code(["a", "b"], [["a", "h"], ["-h"], ["-a", "b"], ["-a", "-b"]], ["h"])
        self.assertEqual([step[:2] for step in paper(code)[1]], [((), None)])
        self.check(code, [([], [((), None, [(1, "-h"), (0, "a"), (2, "b"), (3, None)])])],
                   [([], []), ([], [((), None, [(1, "-h"), (0, "a"), (2, "b")])]), ([], [((), None, [])])])

    def test_a_dead_end_for_a_literal(self):
        code = Code(["a", "b"], [["-a", "h"], ["-a", "-h"], ["b"], ["-a"]], ["h"])
        shown, steps = paper(code)
        self.assertEqual([step[:2] for step in steps], [(("-a",), "-a"), (("b",), "b")])
        self.check(code, [(shown, [*steps, (("-a", "-b"), "-b", [(0, "h"), (1, None)])])],
                   [(shown, [*steps, (("-a", "-b"), "-b", [(0, "h")])])])
        # the literal may be drawn ahead of a dead end that is told then
        code = Code(["a", "b"], [["-a", "b"], ["-b", "-a"], ["-a"]])
        self.check(code, [([("-a", "b"), ("-a", "-b")], [(("-a",), "-a", [(2, "-a")]), step]) for step in (
            (("-a", "b"), "b", [(0, "b")]), (("-a", "b"), "b", [(0, "b"), (1, None)]),
            (("-a", "b"), "b", [(2, None)]), (("-a", "b"), "b", [(1, "-b"), (0, None)]))], [])

    def test_indices(self):
        code = Code(["a"], [["a"]])
        self.check(code, [([("a",)], [(("a",), "a", [(0, "a")])])],
                   [([("a",)], [(("a",), "a", [(index, "a")])]) for index in (False, True, -1, 1, None, "0", 10 ** 30)])
        code = Code(["a", "b"], [["b"], ["a"]])
        steps = [(("a",), "a", [(1, "a")]), (("b",), "b", [(0, "b")])]
        self.check(code, [([("a", "b")], steps)],
                   [([("a", "b")], [(("a",), "a", [(index, "a")]), steps[1]]) for index in (True, -1, 2, 0, "1")])

    def test_of_another_level(self):
        code = EVEN
        made = {level: paper(code, level) for level in LEVELS}
        self.check(code, [made["forced"], made["all"]], [made["dead"]])
        self.check(code, [made["dead"], (made["dead"][0], made["dead"][1] + made["forced"][1])], [made["forced"]], "dead")
        code = Code(["a"], [["-a", "h"], ["-h", "a"]], ["h"])
        made = {level: paper(code, level) for level in LEVELS}
        for one in LEVELS:
            for other in LEVELS:
                self.assertIs(is_paper(code, made[one], other), plain_paper(code, made[one], other))
        self.assertIs(is_paper(code, made["forced"], "all"), False)
        # steps about helpers are none of this level
        self.assertIs(is_paper(code, made["all"], "forced"), False)

    def test_of_another_code(self):
        papers = all_papers(7, 60)
        rnd = seeded(8)
        for _ in range(300):
            code, level, made = rnd.choice(papers)
            other = rnd.choice(papers)
            self.assertIs(is_paper(code, other[2], level), plain_paper(code, other[2], level))

    def test_changed_ones_by_the_plain_way(self):
        rnd = seeded(9)
        papers = all_papers(10, 150)
        right = 0
        for code, level, made in papers * 4:
            shown, steps = [list(row) for row in made[0]], [[list(part[0]), part[1], list(part[2])] for part in made[1]]
            names = code.signs() + code.helpers()
            literals = [None, *literals_of(names)]
            for _ in range(rnd.randint(1, 2)):
                kind = rnd.randrange(8)
                if kind == 0 and shown:
                    shown[rnd.randrange(len(shown))] = list(rnd.choice(all_full(names)))
                elif kind == 1 and shown:
                    rnd.shuffle(shown[rnd.randrange(len(shown))])
                elif kind == 2 and steps:
                    steps[rnd.randrange(len(steps))][1] = rnd.choice(literals)
                elif kind == 3 and steps:
                    rnd.shuffle(steps[rnd.randrange(len(steps))][0])
                elif kind == 4 and steps and len(code):
                    pairs = steps[rnd.randrange(len(steps))][2]
                    pairs.insert(rnd.randint(0, len(pairs)), (rnd.randrange(len(code)), rnd.choice(literals)))
                elif kind == 5 and steps:
                    pairs = steps[rnd.randrange(len(steps))][2]
                    if pairs:
                        del pairs[rnd.randrange(len(pairs))]
                elif kind == 6 and names:
                    # a further triple, right or not
                    clause = [rnd.choice(["", "-"]) + name for name in rnd.sample(names, rnd.randint(0, len(names)))]
                    literal = rnd.choice([None, *clause])
                    given = [opposite(part) for part in clause if part != literal]
                    steps.append([clause, literal, drawings(code, given)])
                elif kind == 7 and steps:
                    one = rnd.randrange(len(steps))
                    clause = steps[one][0]
                    if clause:
                        at = rnd.randrange(len(clause))
                        clause[at] = rnd.choice(literals[1:] or ["a"])
            expected = plain_paper(code, (shown, steps), level)
            self.assertIs(is_paper(code, (shown, steps), level), expected)
            right += expected
        self.assertTrue(0.2 < right / (4 * len(papers)) < 0.8)

    def test_codes_that_do_not_see_have_none(self):
        shown, steps = [("a", "b", "h")], [(("b",), "b", [(2, "b")]), (("a",), "a", [(0, "a")])]
        self.check(CODE, [], [(shown, steps), (shown, []), ([], []), ([("a", "b", "-h")], steps)])
        steps = [(("a",), None, drawings(CODE, ["-a"])), (("b",), None, drawings(CODE, ["-b"]))]
        self.check(CODE, [(shown, steps), ([("-h", "b", "a")], steps)], [([], steps), (shown, steps[:1])], "dead")
        self.assertIs(is_paper(direct(Rule(["a"], [])), ([], [((), None, [(0, "a"), (1, None)])])), False)
        self.assertIs(is_paper(direct(Rule(["a"], [])), ([], [((), None, [(0, "-a"), (1, None)])])), True)


if __name__ == "__main__":
    unittest.main()
