"""Promises 10 and 11: following and drawings."""

import unittest

from lastopen.codes import Code
from lastopen.errors import BadSetting
from lastopen.following import are_drawings, drawings, follow
from lastopen.rules import Rule
from lastopen.ways import direct, rows, whole
from tests.helping import (SIX, all_full, all_partial, anything, no_lists, opposite, plain_closure, plain_follow,
                           seeded, shuffled, some_code, some_partial, some_rule)

CODE = Code(["a", "b"], [["a", "h"], ["a", "-h"], ["-a", "b"]], ["h"])
MANY = [x + y + z for x in "abcdefghijklmnopqrstuvwxyz" for y in "abcdefghij" for z in "abcdefghij"]


def some_cases(number, many):
    """Random codes, each with half-filled settings of its names."""
    rnd = seeded(number)
    for _ in range(many):
        code = some_code(rnd)
        names = code.signs() + code.helpers()
        for _ in range(5):
            yield code, names, some_partial(rnd, names)


def chain(names):
    """Each literal is drawn by the one ahead."""
    return Code(names, [["-" + one, other] for one, other in zip(names, names[1:])])


def plain_right(code, setting, pairs):
    """Whether each pair is right behind those ahead of it."""
    so = set(setting)
    for index, literal in pairs:
        clause = code.clauses()[index]
        denied = [part for part in clause if opposite(part) in so]
        if so & set(clause) or sorted(denied + [literal] * (literal is not None)) != sorted(clause):
            return False
        so.add(literal)
    return None not in [literal for index, literal in pairs[:-1]]


class Following(unittest.TestCase):
    """[10] Following"""

    def test_by_the_plain_way(self):
        dead = 0
        for code, names, setting in some_cases(1, 600):
            before = list(setting)
            found = follow(code, setting)
            self.assertEqual(found, plain_follow(names, code.clauses(), setting))
            self.assertEqual(setting, before)
            dead += found is None
        self.assertTrue(500 < dead < 2500)

    def test_whole_and_rows_and_direct(self):
        rnd = seeded(2)
        for _ in range(30):
            rule = some_rule(rnd, shuffled(rnd, SIX)[:rnd.randint(1, 4)])
            helpers = ["h" + x for x in "abcdefghijklmnop"[:len(rule)]]
            for code in (direct(rule), whole(rule), rows(rule, helpers)):
                names = code.signs() + code.helpers()
                for setting in all_partial(rule.signs()) + [some_partial(rnd, names) for _ in range(20)]:
                    self.assertEqual(follow(code, setting), plain_follow(names, code.clauses(), setting))

    def test_document(self):
        self.assertEqual([follow(CODE, []), follow(CODE, ["a"]), follow(CODE, ["-b"])], [[], ["b"], None])

    def test_helpers_may_be_given(self):
        self.assertEqual(follow(CODE, ["h"]), ["a", "b"])
        self.assertEqual(follow(CODE, ("-h",)), ["a", "b"])
        self.assertEqual(follow(CODE, ["b", "-h", "a"]), [])
        self.assertIsNone(follow(CODE, ["h", "-a"]))

    def test_ascending(self):
        code = Code(["c", "a"], [["z", "-b"], ["-a", "-z"], ["-c", "a"], ["-k", "-c", "a"], ["k", "a"]], ["k", "b", "z"])
        self.assertEqual(follow(code, ["b"]), ["-c", "-a", "k", "z"])
        self.assertEqual(follow(code, ["c"]), ["a", "-b", "-z"])

    def test_no_literal_that_was_given(self):
        code = Code(["a", "b", "c"], [["a"], ["-a", "b"], ["-b", "c"]])
        for setting, found in (([], ["a", "b", "c"]), (["a"], ["b", "c"]), (["b"], ["a", "c"]), (["c", "a"], ["b"]),
                               (["c", "b", "a"], [])):
            self.assertEqual(follow(code, setting), found)
        for setting in (["-a"], ["-b"], ["-c"], ["a", "-c"], ["-c", "b"], ["-c", "-b", "-a"]):
            self.assertIsNone(follow(code, setting))

    def test_edges(self):
        self.assertEqual(follow(Code([], []), []), [])
        self.assertIsNone(follow(Code([], [[]]), []))
        self.assertIsNone(follow(Code(["a"], [["a"], []]), ["a"]))
        self.assertEqual(follow(Code(["a"], []), ["-a"]), [])
        self.assertEqual(follow(Code([], [["h"]], ["h"]), []), ["h"])
        for setting in ([], ["a"], ["-a"], ["-b"]):
            self.assertIsNone(follow(Code(["a", "b"], [["a"], ["-a"]]), setting))
            self.assertIsNone(follow(Code(["a", "b"], [["-a", "b"], ["a"], ["-b", "-a"]]), setting))

    def test_one_open_literal_is_not_enough_if_one_is_so(self):
        code = Code(["a", "b", "c"], [["a", "b", "c"]])
        self.assertEqual(follow(code, ["a", "-b"]), [])
        self.assertEqual(follow(code, ["-a"]), [])
        self.assertEqual(follow(code, ["-a", "-b"]), ["c"])
        self.assertIsNone(follow(code, ["-a", "-c", "-b"]))

    def test_clauses_in_another_order(self):
        rnd = seeded(3)
        for code, names, setting in some_cases(4, 200):
            other = Code(code.signs(), shuffled(rnd, [shuffled(rnd, row) for row in code.clauses()]), code.helpers())
            self.assertEqual(follow(other, shuffled(rnd, setting)), follow(code, setting))

    def test_long_chains(self):
        code = chain(MANY)
        self.assertEqual(follow(code, [MANY[0]]), MANY[1:])
        self.assertEqual(follow(code, ["-" + MANY[-1]]), ["-" + name for name in MANY[:-1]])
        self.assertIsNone(follow(code, ["-" + MANY[-1], MANY[0]]))
        self.assertEqual(follow(code, MANY), [])
        self.assertEqual(follow(code, [MANY[1000], "-" + MANY[999]]),
                         ["-" + name for name in MANY[:999]] + MANY[1001:])

    def test_by_name(self):
        self.assertEqual(follow(setting=["a"], code=CODE), ["b"])

    def test_lists_are_the_callers_own(self):
        follow(CODE, ["a"]).append("x")
        self.assertEqual(follow(CODE, ["a"]), ["b"])


class WrongSettings(unittest.TestCase):
    """The half-filled settings of [10] and [11] are those of [4]"""

    def raised(self, setting, code=CODE):
        indices = []
        for asked in (lambda: follow(code, setting), lambda: drawings(code, setting),
                      lambda: are_drawings(code, setting, 0)):
            with self.assertRaises(BadSetting) as caught:
                asked()
            indices.append(caught.exception.index)
        self.assertEqual(indices, indices[:1] * 3)
        return indices[0]

    def test_no_lists(self):
        for thing in no_lists():
            self.assertEqual(self.raised(thing), 0)

    def test_wrong_things(self):
        for thing in [*anything(), ["a"], "c", "-x", "b", "-b", "h", "-h"]:
            for index in (2, 3):
                setting = ["-h", "b", "a", 0]
                setting.insert(index, thing)
                self.assertEqual(self.raised(setting), index)

    def test_wrong_ahead_of_dead_ends(self):
        code = Code(["a"], [["a"], []])
        self.assertEqual(self.raised(["-a", "b"], code), 1)
        self.assertEqual(self.raised(["a", "-a"], code), 1)
        self.assertEqual(self.raised(["a"], Code([], [])), 0)


class Drawings(unittest.TestCase):
    """[11] Drawings"""

    def test_right_and_complete(self):
        for code, names, setting in some_cases(5, 600):
            pairs = drawings(code, setting)
            self.assertIs(pairs.__class__, list)
            self.assertTrue(all(pair.__class__ is tuple for pair in pairs))
            self.assertTrue(plain_right(code, setting, pairs))
            drawn = [literal for index, literal in pairs]
            if plain_closure(code.clauses(), setting) is None:
                self.assertIsNone(drawn[-1])
            else:
                self.assertEqual(sorted(drawn), sorted(follow(code, setting)))
            self.assertEqual(drawings(code, setting), pairs)
            self.assertIs(are_drawings(code, setting, pairs), True)

    def test_what_there_is_just_one_of(self):
        code = Code(["a", "b", "c"], [["-a", "b"], ["c", "-b"], ["-c", "-a", "b"]])
        self.assertEqual(drawings(code, ["a"]), [(0, "b"), (1, "c")])
        self.assertEqual(drawings(code, ["-c"]), [(1, "-b"), (0, "-a")])
        self.assertEqual(drawings(code, ["-c", "b"]), [(1, None)])
        self.assertEqual(drawings(code, ["c"]), [])
        self.assertEqual(drawings(Code([], [[]]), []), [(0, None)])
        self.assertEqual(drawings(Code([], []), []), [])

    def test_units(self):
        code = Code(["a", "b", "c"], [["a"], ["-a", "b"], ["-b", "c"]])
        self.assertEqual(drawings(code, []), [(0, "a"), (1, "b"), (2, "c")])
        self.assertEqual(drawings(code, ["b"]), [(0, "a"), (2, "c")])
        self.assertEqual(drawings(code, ["c", "a"]), [(1, "b")])
        self.assertEqual(drawings(code, ["-a"])[-1:], [(0, None)])
        for setting in (["-b"], ["-c"], ["-c", "a"], ["-c", "b"], ["-c", "-b", "-a"]):
            pairs = drawings(code, setting)
            self.assertTrue(plain_right(code, setting, pairs) and pairs[-1][1] is None)

    def test_long_chains(self):
        code = chain(MANY)
        self.assertEqual(drawings(code, [MANY[0]]), [(k, name) for k, name in enumerate(MANY[1:])])
        self.assertEqual(drawings(code, ["-" + MANY[-1]]),
                         [(k, "-" + MANY[k]) for k in reversed(range(len(MANY) - 1))])
        pairs = drawings(code, ["-" + MANY[-1], MANY[0]])
        self.assertIsNone(pairs[-1][1])
        self.assertIs(are_drawings(code, ["-" + MANY[-1], MANY[0]], pairs), True)

    def test_by_name(self):
        self.assertEqual(drawings(setting=["a"], code=CODE), [(2, "b")])
        self.assertIs(are_drawings(thing=[(2, "b")], setting=["a"], code=CODE), True)


class AreDrawings(unittest.TestCase):
    """[11] Drawings, told of any objects"""

    def check(self, setting, right, wrong, code=CODE):
        for thing in right:
            self.assertIs(are_drawings(code, setting, thing), True, thing)
        for thing in wrong:
            self.assertIs(are_drawings(code, setting, thing), False, thing)

    def test_right_ones(self):
        self.check([], [[], ()], [[(0, "a")], [(0, "h")], [(2, "b")], [(0, None)]])
        self.check(["-a"], [[], [(0, "h")], [(1, "-h")], [(0, "h"), (1, None)], [(1, "-h"), (0, None)]],
                   [[(1, None)], [(0, "-h")], [(0, "a")], [(1, "h")], [(2, "b")], [(2, "-a")], [(0, "h"), (0, "h")],
                    [(0, "h"), (0, None)], [(0, "h"), (1, "-h")], [(0, "h"), (1, "a")]])
        self.check(["h", "-b"], [[(1, "a"), (2, None)], [(2, "-a"), (1, None)], [(2, "-a")]],
                   [[(2, "-a"), (0, None)], [(1, "a"), (2, "b")], [(2, "-a"), (1, "a")]])

    def test_pairs_behind_a_dead_end(self):
        self.check(["-a"], [[(0, "h"), (1, None)]],
                   [[(0, "h"), (1, None), (1, None)], [(0, "h"), (1, None), (0, "h")], [(1, None), (0, "h")],
                    [(0, "h"), (1, None), None], [(0, "h"), (1, None), ()], [(0, "h"), (1, None), (2, "b")]])
        self.check([], [[(0, None)], [(1, "a")], [(1, "a"), (0, None)]], [[(0, None), (1, "a")], [(0, None), (0, None)]],
                   Code(["a"], [[], ["a"]]))

    def test_literals_that_were_given(self):
        self.check(["a", "b"], [[]], [[(2, "b")], [(2, "-a")], [(2, None)]])
        self.check(["a"], [[(2, "b")]], [[(2, "b"), (2, "b")], [(0, "a")], [(1, "-h")], [(0, None)]])
        code = Code(["a"], [["a"]])
        self.check(["a"], [[]], [[(0, "a")], [(0, None)]], code)
        self.check(["-a"], [[], [(0, None)]], [[(0, "a")], [(0, "-a")]], code)

    def test_lists_and_tuples(self):
        self.check(["-a"], [((0, "h"), (1, None)), [[0, "h"], [1, None]], ([0, "h"], (1, None)), ([1, "-h"],)],
                   [(0, "h"), [0, "h"], {0: "h"}, {(0, "h"): 1}, "0h", [("0", "h")]])

    def test_indices(self):
        wrong = [[(index, "a")] for index in (1, 2, -1, -2, 10 ** 30, False, True, None, "0", (0,), [0], {}, CODE)]
        self.check([], [[(0, "a")]], wrong, Code(["a"], [["a"]]))
        code = Code(["a"], [["-a"], ["a"]])
        self.check(["-a"], [[(1, None)]],
                   [[(index, None)] for index in (True, False, 0, -1, 2, -2, 10 ** 30, None, "1", (1,), [1])], code)
        self.check([], [], [[(0, "a")], [(0, None)], [(-1, None)], [(False, None)]], Code([], []))

    def test_any_objects(self):
        things = [thing for thing in anything() if not isinstance(thing, (list, tuple))]
        self.check(["a"], [], things)
        self.check(["a"], [[(2, "b")]], [[thing] for thing in anything()] + [[(2, "b"), thing] for thing in anything()])
        self.check(["a"], [], [[(thing, "b")] for thing in anything()])
        self.check(["a"], [], [[(2, thing)] for thing in anything()] + [[(2, ["b"])], [(2, ("b",))], [(2, "-b")]])
        self.check(["a"], [], [[(2,)], [(2, "b", None)], [()], [("b", 2)], [(2, "b", "b")], [[2]]])

    def test_changed_ones_by_the_plain_way(self):
        rnd = seeded(6)
        right = 0
        for code, names, setting in some_cases(7, 300):
            pairs = drawings(code, setting)[:rnd.randint(0, 6)]
            if pairs and rnd.random() < 0.3:
                del pairs[rnd.randrange(len(pairs))]
            elif pairs and rnd.random() < 0.5:
                rnd.shuffle(pairs)
            elif len(code):
                literal = rnd.choice([None, *names, *["-" + name for name in names]])
                pairs.insert(rnd.randint(0, len(pairs)), (rnd.randrange(len(code)), literal))
            expected = plain_right(code, setting, pairs)
            self.assertIs(are_drawings(code, setting, pairs), expected)
            right += expected
        self.assertTrue(150 < right < 1350)

    def test_nothing_is_changed(self):
        setting, pairs = ["-a"], [[0, "h"], [1, None]]
        are_drawings(CODE, setting, pairs)
        self.assertEqual((setting, pairs), (["-a"], [[0, "h"], [1, None]]))

    def test_objects_of_the_package(self):
        rule = Rule(["a"], [["a"]])
        for thing in (CODE, rule, [CODE], [rule], [(CODE, rule)], [(0, CODE)], all_full(["a"])):
            self.assertIs(are_drawings(CODE, ["-a"], thing), False)


if __name__ == "__main__":
    unittest.main()
