"""Promises over the whole program: names, sides and orders that do not matter, and what is passed on."""

import unittest

from lastopen.building import bare, either, hidden, lifted, put_out, set_to, sharpens
from lastopen.code_texts import read_code, write_code
from lastopen.codes import Code
from lastopen.following import are_drawings, drawings, follow
from lastopen.leading import Led, solved
from lastopen.mending import fewest, grown, least_code, needed
from lastopen.orders import needless, outdone, trimmed
from lastopen.papers import is_paper, paper
from lastopen.rules import Rule
from lastopen.seeing import blind, blind_count, sees
from lastopen.webs import Web
from lastopen.ways import direct, rows, whole
from tests.helping import (LEVELS, MANY, SIX, opposite, seeded, shuffled, small_codes, some_partial, some_rule)


class Change:
    """Other names, one for one, some of them with their sides exchanged."""

    def __init__(self, rnd, names, turned):
        others = shuffled(rnd, ["sign", "abcdefgh", "z", "zz", "m", "helper", "clause", "bb", "c", "a"])
        self.literals = {}
        for name, other in zip(names, others):
            sides = [other, "-" + other]
            if turned and rnd.random() < 0.5:
                sides.reverse()
            self.literals[name], self.literals["-" + name] = sides

    def name(self, name):
        return self.literals[name].lstrip("-")

    def names(self, names):
        return [self.name(name) for name in names]

    def row(self, row):
        return [self.literals[literal] for literal in row]

    def deep(self, thing):
        """All literals in lists and tuples, changed."""
        if isinstance(thing, (list, tuple)):
            return thing.__class__([self.deep(part) for part in thing])
        if isinstance(thing, str):
            return self.literals[thing]
        return thing

    def code(self, code):
        return Code(self.names(code.signs()), [self.row(row) for row in code.clauses()], self.names(code.helpers()))


def put_all(code, order):
    led = Led(code)
    for literal in order:
        if not led.is_dead() and literal not in led and opposite(literal) not in led:
            led.put(literal)
    return led


def sets(rows_of_literals):
    return [set(row) for row in rows_of_literals]


def some_order(rnd, code):
    return shuffled(rnd, [rnd.choice(["", "-"]) + name for name in code.signs()])


class OtherNames(unittest.TestCase):
    """Names changed one for one change no answer but for the names."""

    def test_codes(self):
        rnd = seeded(1)
        for code in small_codes(2, 120):
            names = code.signs() + code.helpers()
            change = Change(rnd, names, False)
            other = change.code(code)
            setting = some_partial(rnd, names)
            self.assertEqual(follow(other, change.row(setting)), change.deep(follow(code, setting)))
            self.assertTrue(are_drawings(other, change.row(setting), change.deep(drawings(code, setting))))
            self.assertEqual(other.rule().settings(), change.deep(code.rule().settings()))
            self.assertEqual(needless(other), needless(code))
            self.assertEqual(trimmed(other).clauses(), change.deep(trimmed(code).clauses()))
            self.assertEqual(grown(other).clauses(), change.deep(grown(code).clauses()))
            self.assertEqual(bare(other).clauses(), change.deep(bare(code).clauses()))
            self.assertEqual(outdone(other, bare(other)), change.deep(outdone(code, bare(code))))
            for level in LEVELS:
                self.assertEqual(blind(other, level), change.deep(blind(code, level)))
                self.assertEqual(blind_count(other, level), blind_count(code, level))
                if sees(code, level):
                    self.assertTrue(is_paper(other, change.deep(paper(code, level)), level))
                    self.assertTrue(is_paper(other, paper(other, level), level))
                if level != "all":
                    self.assertEqual(fewest(other, level), change.deep(fewest(code, level)))
            for name in code.helpers():
                self.assertIs(sharpens(other, change.name(name)), sharpens(code, name))
                self.assertEqual(put_out(other, change.name(name)).clauses(), change.deep(put_out(code, name).clauses()))

    def test_led(self):
        rnd = seeded(3)
        for code in small_codes(4, 150):
            change = Change(rnd, code.signs() + code.helpers(), False)
            other = change.code(code)
            order = some_order(rnd, code)
            found = solved(code, order)
            self.assertEqual(solved(other, change.row(order)), (found[0], *change.deep(found[1:-1]), found[-1]))
            one, two = put_all(code, order), put_all(other, change.row(order))
            self.assertEqual((two.choices(), two.drawn()), (change.deep(one.choices()), change.deep(one.drawn())))
            if one.is_dead():
                self.assertEqual(two.blame(), change.deep(one.blame()))
            else:
                for literal in one.drawn():
                    self.assertEqual(two.why(change.literals[literal]), change.deep(one.why(literal)))

    def test_rules(self):
        rnd = seeded(5)
        for _ in range(60):
            names = shuffled(rnd, SIX)[:rnd.randint(0, 4)]
            rule = some_rule(rnd, names)
            change = Change(rnd, names, False)
            other = Rule(change.names(names), change.deep(rule.settings()))
            self.assertEqual(other.shortest(), change.deep(rule.shortest()))
            self.assertEqual(needed(other), change.deep(needed(rule)))
            self.assertEqual(least_code(other).clauses(), change.deep(least_code(rule).clauses()))


class OtherSidesAndOrders(unittest.TestCase):
    """Sides exchanged, clauses and names in another order change no answer but for the names and the order."""

    def changed(self, rnd, code):
        change = Change(rnd, code.signs() + code.helpers(), True)
        clauses = [change.row(shuffled(rnd, row)) for row in shuffled(rnd, code.clauses())]
        return change, Code(shuffled(rnd, change.names(code.signs())), clauses,
                            shuffled(rnd, change.names(code.helpers())))

    def same(self, one, other):
        """Lists with the same things in any order, each a set of literals."""
        self.assertEqual(sorted(sorted(row) for row in one), sorted(sorted(row) for row in other))

    def test_codes(self):
        rnd = seeded(6)
        for code in small_codes(7, 150):
            change, other = self.changed(rnd, code)
            setting = some_partial(rnd, code.signs() + code.helpers())
            found = follow(code, setting)
            told = follow(other, shuffled(rnd, change.row(setting)))
            self.assertEqual(None if told is None else sorted(told), None if found is None else sorted(change.row(found)))
            self.assertTrue(are_drawings(other, change.row(setting), drawings(other, change.row(setting))))
            self.same(other.rule().settings(), change.deep(code.rule().settings()))
            self.same(other.rule().shortest(), change.deep(code.rule().shortest()))
            self.same([other.clauses()[index] for index in needless(other)],
                      change.deep([code.clauses()[index] for index in needless(code)]))
            self.same(needed(other.rule()), change.deep(needed(code.rule())))
            self.assertEqual(len(least_code(other.rule())), len(least_code(code.rule())))
            self.same(bare(other).rule().settings(), change.deep(bare(code).rule().settings()))
            for level in LEVELS:
                self.assertEqual(blind_count(other, level), blind_count(code, level))
                self.assertIs(sees(other, level), sees(code, level))
                if level != "all":
                    self.assertEqual(len(fewest(other, level)), len(fewest(code, level)))
            for name in code.helpers():
                self.assertIs(sharpens(other, change.name(name)), sharpens(code, name))
                self.same(put_out(other, change.name(name)).clauses(), change.deep(put_out(code, name).clauses()))
                self.same(set_to(other, change.literals[name]).clauses(), change.deep(set_to(code, name).clauses()))
            for name in code.signs():
                self.same(hidden(other, change.name(name)).rule().settings(),
                          change.deep(hidden(code, name).rule().settings()))
            self.assertTrue(sees(lifted(other)) if sees(code, "dead") else True)

    def test_outdone(self):
        rnd = seeded(8)
        codes = [code for code in small_codes(9, 200) if code.signs()]
        for code in codes:
            change, other = self.changed(rnd, code)
            less = code.less(0) if len(code) else code
            told = change.code(less)
            self.assertIs(outdone(other, told) is None, outdone(code, less) is None)
            self.assertIs(outdone(told, other) is None, outdone(less, code) is None)

    def test_led(self):
        rnd = seeded(10)
        for code in small_codes(11, 200):
            change, other = self.changed(rnd, code)
            order = some_order(rnd, code)
            found, told = solved(code, order), solved(other, change.row(order))
            self.assertEqual((told[0], told[-1]), (found[0], found[-1]))
            self.same(told[1:-1], change.deep(found[1:-1]))
            one, two = put_all(code, order), put_all(other, change.row(order))
            self.assertEqual((two.choices(), two.is_dead()), (change.row(one.choices()), one.is_dead()))
            if one.is_dead():
                self.assertEqual(two.blame(), change.row(one.blame()))
            else:
                self.assertEqual(sorted(two.drawn()), sorted(change.row(one.drawn())))
                for literal in one.drawn():
                    self.assertEqual(two.why(change.literals[literal]), change.row(one.why(literal)))

    def test_webs(self):
        rnd = seeded(12)
        for _ in range(60):
            names = shuffled(rnd, SIX)
            codes = [whole(some_rule(rnd, part)) for part in (names[:3], names[2:5], names[4:])]
            codes[0] = codes[0].less(0) if len(codes[0]) else codes[0]
            change = Change(rnd, names, True)
            one, two = Web(codes), Web(shuffled(rnd, [change.code(code) for code in codes]))
            self.assertIs(two.sees(), one.sees())
            setting = some_partial(rnd, names)
            found, told = one.forced(setting), two.forced(change.row(setting))
            self.assertEqual(None if told is None else sorted(told), None if found is None else sorted(change.row(found)))


class PassedOn(unittest.TestCase):
    """What one module returns is passed on to another, whatever its size."""

    def check_all(self, code, rule):
        self.assertEqual(code.rule(), rule)
        self.assertTrue(sees(code))
        self.assertEqual(blind_count(code), 0)
        self.assertTrue(is_paper(code, paper(code)))
        self.assertEqual((fewest(code), grown(code)), ([], code))
        self.assertEqual((outdone(code, whole(rule)), outdone(whole(rule), code)), (None, None))
        thin = trimmed(code)
        self.assertEqual(needless(thin), [])
        self.assertTrue(sees(thin) and thin.rule() == rule)
        self.assertEqual(read_code(write_code(code)).clauses(), code.clauses())
        web = Web([code])
        self.assertTrue(web.sees() and web.code() == code)
        self.assertEqual(web.forced([]), rule.forced([]))
        found = solved(code, ["-" + name for name in rule.signs()])
        self.assertEqual(found[-1], 0)
        self.assertEqual(found[0], "found" if len(rule) else "none")
        led = put_all(code, rule.signs())
        self.assertIs(led.is_dead(), len(rule) == 0)
        for name in rule.signs():
            self.assertTrue(sees(hidden(code, name)) and sees(set_to(code, "-" + name)))
        for name in code.helpers()[:3]:
            smaller = put_out(code, name)
            self.assertTrue(smaller.rule() == rule and sees(smaller))
            self.assertIn(sharpens(code, name), (True, False))

    def test_chains(self):
        rnd = seeded(13)
        for size in (0, 1, 2, 3, 4):
            names = SIX[:size]
            one, other = some_rule(rnd, names), some_rule(rnd, names[::-1])
            self.check_all(either(whole(one), rows(other, MANY[:len(other)])), one | other)
            self.check_all(lifted(whole(one)), one)
            self.check_all(grown(direct(one)), one)
            self.check_all(either(either(whole(one), whole(other)), grown(direct(one & other))), one | other)
            self.check_all(lifted(either(whole(one), whole(other))) if size < 3 else least_code(one | other), one | other)

    def test_largest(self):
        rnd = seeded(14)
        helpers = MANY[:20]
        while True:
            names = SIX + helpers
            code = Code(SIX, [[rnd.choice(["", "-"]) + name for name in rnd.sample(names, 4)] for _ in range(100)], helpers)
            if 3 < len(code.rule()) < 60 and sees(code, "dead"):
                break
        high = lifted(code)
        self.assertTrue(sees(high))
        self.assertTrue(is_paper(high, paper(high)))
        self.assertEqual(trimmed(high).rule(), code.rule())
        both = either(high, code)
        self.assertEqual((both.rule(), sees(both, "dead")), (code.rule(), True))
        self.assertEqual(solved(both, SIX)[0], "found")
        self.assertTrue(Web([high]).sees())
        self.assertEqual(len(read_code(write_code(high))), len(high))


if __name__ == "__main__":
    unittest.main()
