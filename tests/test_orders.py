"""Promises 16 and 17: what another code finds, and needless clauses."""

import unittest

from lastopen.codes import Code
from lastopen.errors import TooMany, UnlikeSigns
from lastopen.following import follow
from lastopen.orders import needless, outdone, trimmed
from lastopen.rules import Rule
from lastopen.ways import direct, rows, whole
from tests.helping import (MANY, SEVEN, SIX, all_partial, opposite, plain_closure, seeded, shuffled, small_codes,
                           some_clauses, some_rule)

CODE = Code(["a", "b"], [["a", "h"], ["a", "-h"], ["-a", "b"]], ["h"])
LONG = [x + y + z for x in "abcdefghijklmnopqrstuvwxyz" for y in "abcdefgh" for z in "abcde"]


def plain_outdone(one, other):
    """By the words of [16]."""
    for setting in all_partial(one.signs()):
        mine = plain_closure(one.clauses(), setting)
        if mine is None:
            continue
        others = plain_closure(other.clauses(), setting)
        if others is None:
            return (setting, None)
        for name in one.signs():
            for literal in (name, "-" + name):
                if literal in others and literal not in mine:
                    return (setting, literal)
    return None


def plain_finds(names, clauses):
    """What following finds at each half-filled setting of signs and helpers."""
    return [plain_closure(clauses, setting) for setting in all_partial(names)]


def plain_needless(names, clauses, index):
    """By the words of [17]."""
    return plain_finds(names, clauses) == plain_finds(names, clauses[:index] + clauses[index + 1:])


def pairs_of_codes(number, many):
    rnd = seeded(number)
    for code in small_codes(number, many):
        signs = shuffled(rnd, code.signs())
        helpers = [name for name in SEVEN if name not in signs][:rnd.randint(0, 2)]
        clauses = some_clauses(rnd, signs + helpers, 6)
        yield code, Code(signs, clauses, helpers)
        # one that is much like it
        less = [clause for clause in code.clauses() if rnd.random() < 0.8]
        more = some_clauses(rnd, code.signs() + code.helpers(), 1)
        yield code, Code(signs, less + more, code.helpers())


class Outdone(unittest.TestCase):
    """[16] What another code finds"""

    def test_by_the_plain_way(self):
        met = [0, 0, 0]
        for one, other in pairs_of_codes(1, 250):
            for first, second in ((one, other), (other, one)):
                found = outdone(first, second)
                self.assertEqual(found, plain_outdone(first, second))
                self.assertEqual(outdone(first, second), found)
                met[0 if found is None else 1 if found[1] is None else 2] += 1
                if found is not None:
                    self.assertEqual((found.__class__, found[0].__class__), (tuple, tuple))
        self.assertTrue(min(met) > 100)

    def test_document(self):
        one = direct(Rule(["a"], [["a"]]) | Rule(["b"], [["b"]]))
        self.assertEqual([one.clauses(), outdone(CODE, one), outdone(one, CODE)],
                         [[("a", "b")], None, (("a",), "b")])

    def test_first_in_the_order_of_lists(self):
        names = ["c", "a", "b"]
        nothing = Code(names, [])
        self.assertEqual(outdone(nothing, Code(["a", "b", "c"], [["a", "b"], ["-b", "-c"]])), (("c",), "a"))
        self.assertEqual(outdone(nothing, Code(["a", "b", "c"], [["-b", "-c"], ["a", "-c"]])), (("c",), "a"))
        self.assertEqual(outdone(nothing, Code(["a", "b", "c"], [["-b", "-c"], ["-a", "b"]])), (("c",), "-a"))
        self.assertEqual(outdone(nothing, Code(["a", "b", "c"], [["a", "b"], ["a", "-c"], ["b", "-c"]])), (("c",), "a"))
        self.assertEqual(outdone(nothing, Code(["a", "b", "c"], [["a"], ["-c"]])), ((), "-c"))
        self.assertEqual(outdone(nothing, Code(["a", "b", "c"], [["a", "b", "c"]])), (("-c", "-a"), "b"))
        self.assertEqual(outdone(Code(["a", "b"], [["a", "b"]]), Code(["b", "a"], [["a", "b"], ["a", "-b"], ["-a", "b"]])),
                         (("a",), "b"))
        self.assertEqual(outdone(nothing, Code(names, [[]])), ((), None))
        # a dead end of one is met whatever the other does
        self.assertIsNone(outdone(Code(names, [[]]), Code(names, [["a"], ["b"]])))
        self.assertEqual(outdone(Code(["a"], [["a"]]), Code(["a"], [["-a"]])), ((), "-a"))
        self.assertEqual(outdone(Code(["a"], [["a", "h"]], ["h"]), Code(["a"], [["a", "h"], ["a", "-h"]], ["h"])),
                         (("-a",), None))

    def test_helpers_do_not_count(self):
        one = Code(["a"], [])
        other = Code(["a"], [["h"], ["-a", "k"]], ["h", "k"])
        self.assertIsNone(outdone(one, other))
        self.assertIsNone(outdone(other, one))
        # helpers of one may be unlike those of the other, and have the same names for something else
        self.assertIsNone(outdone(Code(["a", "b"], [["a", "b"]]), Code(["b", "a"], [["a", "h"], ["-h", "b"]], ["h"])))
        self.assertIsNone(outdone(Code(["a", "b"], [["a", "-h"], ["h", "b"]], ["h"]),
                                  Code(["b", "a"], [["a", "h"], ["-h", "b"]], ["h"])))

    def test_ways(self):
        rnd = seeded(2)
        for size in (0, 1, 2, 3, 4, 6):
            for _ in range(4):
                rule = some_rule(rnd, shuffled(rnd, SIX)[:size])
                self.assertIsNone(outdone(whole(rule), direct(rule)))
                self.assertIsNone(outdone(whole(rule), rows(rule, MANY[:len(rule)])))
                self.assertIsNone(outdone(rows(rule, MANY[:len(rule)]), whole(rule)))

    def test_edges(self):
        self.assertIsNone(outdone(Code([], []), Code([], [])))
        self.assertEqual(outdone(Code([], []), Code([], [[]])), ((), None))
        self.assertEqual(outdone(Code([], [], ["h"]), Code([], [["h"], ["-h"]], ["h"])), ((), None))
        self.assertIsNone(outdone(Code(SIX, []), Code(SIX[::-1], [])))
        self.assertEqual(outdone(Code(SIX, []), Code(SIX[::-1], [SIX])), (("-a", "-b", "-c", "-d", "-e"), "f"))

    def test_unlike_signs(self):
        cases = [(["a"], ["b"]), (["a"], []), ([], ["a"]), (["a", "b"], ["a", "c"]), (SEVEN, SIX), (SIX, SEVEN),
                 (SEVEN, SEVEN[:-1] + ["h"])]
        for one, other in cases:
            with self.assertRaises(UnlikeSigns):
                outdone(Code(one, []), Code(other, []))
        with self.assertRaises(UnlikeSigns):
            outdone(Code(["a"], [], ["b"]), Code(["a", "b"], []))

    def test_too_many(self):
        for names in (SEVEN, MANY[:30]):
            with self.assertRaises(TooMany) as caught:
                outdone(Code(names, []), Code(names[::-1], [[]], ["x"]))
            self.assertEqual(caught.exception.n, len(names))
        self.assertIsNone(outdone(Code(["a"], [], MANY), Code(["a"], [], MANY)))

    def test_by_name(self):
        one = Code(["a"], [])
        other = Code(["a"], [["a"]])
        self.assertEqual(outdone(other=other, one=one), ((), "a"))
        self.assertIsNone(outdone(other=one, one=other))


class Needless(unittest.TestCase):
    """[17] Needless clauses"""

    def test_by_the_plain_way(self):
        few = 0
        for code in small_codes(3, 200):
            names = code.signs() + code.helpers()
            if len(names) < 5:
                before = code.clauses()
                found = needless(code)
                self.assertEqual(found, [index for index in range(len(code))
                                         if plain_needless(names, before, index)])
                self.assertEqual((needless(code), code.clauses()), (found, before))
                few += len(found)
        self.assertTrue(few > 150)

    def test_trimmed_by_the_plain_way(self):
        for code in small_codes(4, 150):
            names = code.signs() + code.helpers()
            if len(names) < 5:
                clauses = code.clauses()
                at = 0
                while at < len(clauses):
                    if plain_needless(names, clauses, at):
                        del clauses[at]
                    else:
                        at += 1
                found = trimmed(code)
                self.assertIs(found.__class__, Code)
                self.assertEqual((found.signs(), found.helpers(), found.clauses()),
                                 (code.signs(), code.helpers(), clauses))
                self.assertEqual(plain_finds(names, clauses), plain_finds(names, code.clauses()))

    def test_fact(self):
        for code in small_codes(5, 200):
            expected = []
            for index, clause in enumerate(code.clauses()):
                rest = code.less(index)
                found = [(follow(rest, [opposite(other) for other in clause if other != literal]), literal)
                         for literal in clause]
                if not clause:
                    is_found = follow(rest, []) is None
                else:
                    is_found = all(drawn is None or literal in drawn for drawn, literal in found)
                expected += [index] * is_found
            self.assertEqual(needless(code), expected)

    def test_documents_example(self):
        one = direct(Rule(["a"], [["a"]]) | Rule(["b"], [["b"]]))
        self.assertEqual(needless(one.more([["a"]])), [0])
        self.assertEqual(trimmed(one.more([["a"]])).clauses(), [("a",)])

    def test_written_out(self):
        code = Code(["a", "b", "c"], [["-a", "b"], ["-b", "c"], ["-a", "c"]])
        self.assertEqual((needless(code), trimmed(code).clauses()), ([2], [("-a", "b"), ("-b", "c")]))
        # each of a ring is needless, but not two of them at once
        ring = Code(["a", "b"], [["a", "b"], ["a"], ["b"], ["a", "-b"]])
        self.assertEqual((needless(ring), trimmed(ring).clauses()), ([0, 1, 3], [("a",), ("b",)][1:] + [("a", "-b")]))
        # found by a dead end
        code = Code(["a", "b"], [["a"], ["-a"], ["b"], ["-b"], []])
        self.assertEqual((needless(code), trimmed(code).clauses()), ([0, 1, 2, 3, 4], [()]))
        self.assertEqual(trimmed(code.less(4)).clauses(), [("b",), ("-b",)])
        self.assertEqual(needless(CODE), [])
        self.assertEqual(trimmed(CODE), CODE)

    def test_what_a_helper_draws_counts(self):
        code = Code(["a"], [["a", "h"], ["-h", "k"], ["a", "k"]], ["h", "k"])
        self.assertEqual(needless(code), [2])
        self.assertEqual(needless(Code(["a"], [["h"]], ["h"])), [])

    def test_edges(self):
        self.assertEqual((needless(Code([], [])), trimmed(Code([], []))), ([], Code([], [])))
        self.assertEqual((needless(Code([], [[]])), trimmed(Code([], [[]]))), ([], Code([], [[]])))
        self.assertEqual(needless(Code(["a"], [["a"], []])), [0])
        self.assertEqual(needless(Code(["a"], [["a"]])), [])
        self.assertEqual(needless(Code(["a"], [["a"], ["-a"], []])), [0, 1, 2])
        self.assertEqual(trimmed(Code(["a"], [["a"], ["-a"], []])).clauses(), [()])
        self.assertEqual(trimmed(Code(["a"], [[], ["a"], ["-a"]])).clauses(), [("a",), ("-a",)])

    def test_any_size(self):
        links = [["-" + one, other] for one, other in zip(LONG, LONG[1:])]
        shortcuts = [["-" + LONG[at], LONG[at + 7]] for at in range(0, 1000, 50)]
        code = Code(LONG[:8], shortcuts + links, LONG[8:])
        self.assertEqual(needless(code), list(range(len(shortcuts))))
        self.assertEqual(len(trimmed(code)), len(links))
        code = Code(LONG, [[LONG[0]]] + links)
        self.assertEqual(needless(code), [])
        rule = Rule(SIX, [])
        code = rows(~rule, MANY)
        self.assertEqual(trimmed(code).rule(), ~rule)
        self.assertEqual(needless(code)[-1:], [len(code) - 1])

    def test_lists_are_the_callers_own(self):
        code = Code(["a"], [["a"], []])
        needless(code).append(5)
        self.assertEqual(needless(code), [0])

    def test_by_name(self):
        code = Code(["a"], [["a"], []])
        self.assertEqual((needless(code=code), trimmed(code=code)), ([0], Code(["a"], [[]])))


class AskedOfMany(unittest.TestCase):
    """Leaving out one clause after another leads to the same as a fresh code without it."""

    def is_found(self, clauses, clause):
        settings = [[opposite(other) for other in clause if other != literal] for literal in clause]
        found = [plain_closure(clauses, setting) for setting in settings]
        return all(so is None or literal in so for so, literal in zip(found, clause))

    def test_codes_that_draw_much_from_nothing(self):
        rnd = seeded(6)
        for _ in range(1000):
            names = shuffled(rnd, SEVEN)[:rnd.randint(1, 6)]
            clauses = some_clauses(rnd, names, 24)
            clauses += [[rnd.choice(["", "-"]) + rnd.choice(names)] for _ in range(rnd.randint(0, 3))]
            code = Code(names, shuffled(rnd, clauses))
            expected = [index for index, clause in enumerate(code.clauses())
                        if self.is_found(code.less(index).clauses(), clause)]
            self.assertEqual(needless(code), expected)
            kept = code.clauses()
            for clause in code.clauses():
                rest = [other for other in kept if other != clause]
                if self.is_found(rest, clause):
                    kept = rest
            self.assertEqual(trimmed(code).clauses(), kept)


if __name__ == "__main__":
    unittest.main()
