"""Promises 28 to 30: led, why, solved."""

import unittest

from lastopen.building import either, lifted
from lastopen.codes import Code
from lastopen.errors import BadLiteral, BadSetting, Dead, IsSet, NotDead, NotDrawn, NothingToUndo
from lastopen.following import follow
from lastopen.leading import Led, solved
from lastopen.rules import Rule
from lastopen.seeing import sees
from lastopen.ways import direct, rows, whole
from tests.helping import (MANY, SEVEN, SIX, all_full, anything, fits, no_lists, opposite, plain_closure, plain_follow,
                           plain_rule, seeded, shuffled, small_codes, some_clauses, some_code, some_rule)

CODE = Code(["a", "b"], [["a", "h"], ["a", "-h"], ["-a", "b"]], ["h"])
CHAIN = Code(["a", "b", "c"], [["-a", "b"], ["-b", "h"], ["-h", "c"]], ["h"])
DEAD = Code(["a", "b"], [["a"], ["-a"]])
LONG = [x + y + z for x in "abcdefghijklmnopqrstuvwxyz" for y in "abcdefghij" for z in "abcdefghij"]


class Plain:
    """What Led does, by following anew each time."""

    def __init__(self, code):
        self.code = code
        self.names = code.signs() + code.helpers()
        self.put_so_far = []

    def drawn(self, setting=None):
        return plain_follow(self.names, self.code.clauses(), self.put_so_far if setting is None else setting)

    def put(self, literal):
        before = self.drawn()
        self.put_so_far.append(literal)
        after = self.drawn()
        return None if after is None else [other for other in after if other not in before]

    def kept(self, literal):
        """By the words of [29]; the literal is None for a dead end."""
        kept = list(self.put_so_far)
        for choice in self.put_so_far:
            rest = [other for other in kept if other != choice]
            drawn = self.drawn(rest)
            if drawn is None or literal in drawn:
                kept = rest
        return kept


def literals_of(names):
    return [literal for name in names for literal in (name, "-" + name)]


class Leading(unittest.TestCase):
    """[28] Led"""

    def check(self, led, plain):
        drawn = plain.drawn()
        self.assertEqual(led.drawn(), drawn)
        self.assertIs(led.is_dead(), drawn is None)
        self.assertEqual((led.choices(), len(led)), (plain.put_so_far, len(plain.put_so_far)))
        for literal in literals_of(plain.names):
            expected = literal in plain.put_so_far or drawn is not None and literal in drawn
            self.assertIs(literal in led, expected)

    def test_by_following_anew(self):
        rnd = seeded(1)
        undone = dead = 0
        for _ in range(250):
            code = some_code(rnd, 6, 3, 10)
            led, plain = Led(code), Plain(code)
            self.check(led, plain)
            for _ in range(12):
                if plain.put_so_far and rnd.random() < 0.35:
                    self.assertEqual(led.undo(), plain.put_so_far.pop())
                    undone += 1
                elif plain.drawn() is None:
                    dead += 1
                    self.assertRaises(Dead, led.put, rnd.choice(literals_of(plain.names) or ["a"]))
                else:
                    open_signs = [name for name in code.signs() if name not in led and "-" + name not in led]
                    if open_signs:
                        literal = rnd.choice(["", "-"]) + rnd.choice(open_signs)
                        if rnd.random() < 0.5:
                            self.assertEqual(led.put(literal), plain.put(literal))
                        else:
                            led += literal
                            plain.put(literal)
                self.check(led, plain)
        self.assertTrue(undone > 300 and dead > 300)

    def test_written_out(self):
        led = Led(CHAIN)
        self.assertEqual((led.drawn(), led.choices(), len(led), led.is_dead()), ([], [], 0, False))
        self.assertEqual(led.put("b"), ["c", "h"])
        self.assertEqual(led.put("-a"), [])
        self.assertEqual((led.drawn(), led.choices(), len(led)), (["c", "h"], ["b", "-a"], 2))
        self.assertEqual([thing in led for thing in ("b", "-a", "c", "h", "-h", "a", "-b")], [True] * 4 + [False] * 3)
        self.assertEqual((led.undo(), led.undo(), led.drawn()), ("-a", "b", []))
        self.assertEqual(led.put("-c"), ["-a", "-b", "-h"])
        self.assertEqual(led.undo(), "-c")

    def test_what_was_drawn_ahead_is_not_told_again(self):
        led = Led(Code(["a", "b", "c"], [["a"], ["-b", "c"]]))
        self.assertEqual((led.drawn(), led.put("b"), led.drawn()), (["a"], ["c"], ["a", "c"]))
        self.assertEqual((led.undo(), led.drawn()), ("b", ["a"]))

    def test_dead_ends(self):
        led = Led(Code(["a", "b", "c"], [["-a", "b"], ["-a", "-b"], ["-c", "a"]]))
        self.assertEqual(led.drawn(), [])
        led = Led(Code(["a", "b", "c"], [["a", "b"], ["a", "-b", "c"], ["a", "-b", "-c"]]))
        self.assertEqual(led.put("c"), [])
        self.assertIsNone(led.put("-a"))
        self.assertEqual((led.is_dead(), led.drawn(), led.choices(), len(led)), (True, None, ["c", "-a"], 2))
        self.assertEqual([thing in led for thing in ("c", "-a", "b", "-b", "a")], [True, True, False, False, False])
        for literal in ("b", "a", "-a", "h", 0):
            self.assertRaises(Dead, led.put, literal)
        self.assertEqual((led.undo(), led.is_dead(), led.drawn()), ("-a", False, []))
        led += "-a"
        self.assertTrue(led.is_dead())
        with self.assertRaises(Dead):
            led += "b"

    def test_dead_from_the_beginning(self):
        for code in (DEAD, Code(["a"], [[]]), Code([], [["h"], ["-h"]], ["h"])):
            led = Led(code)
            self.assertEqual((led.is_dead(), led.drawn(), led.choices(), len(led)), (True, None, [], 0))
            for thing in anything():
                self.assertRaises(Dead, led.put, thing)
                self.assertIs(thing in led, False)
            self.assertIs("a" in led, False)
            self.assertRaises(NothingToUndo, led.undo)
            self.assertEqual(led.blame(), [])
            self.assertEqual(led.copy(), led)

    def test_nothing_to_undo(self):
        led = Led(CODE)
        self.assertRaises(NothingToUndo, led.undo)
        led.put("a")
        led.undo()
        self.assertRaises(NothingToUndo, led.undo)
        self.assertRaises(NothingToUndo, Led(Code([], [])).undo)
        # what is drawn from nothing stays
        led = Led(Code(["a"], [["a"]]))
        self.assertRaises(NothingToUndo, led.undo)
        self.assertEqual(led.drawn(), ["a"])

    def test_no_literals_of_signs(self):
        led = Led(CHAIN)
        led.put("b")
        for thing in [*anything(), "h", "-h", "d", "--a", ["a"], ("a",), "a "]:
            with self.assertRaises(BadLiteral) as caught:
                led.put(thing)
            self.assertIs(caught.exception.literal, thing)
            with self.assertRaises(BadLiteral) as caught:
                led += thing
            self.assertIs(caught.exception.literal, thing)
        self.assertEqual((led.choices(), led.drawn()), (["b"], ["c", "h"]))

    def test_signs_that_are_set(self):
        led = Led(CHAIN)
        led.put("b")
        for literal, name in (("b", "b"), ("-b", "b"), ("c", "c"), ("-c", "c")):
            with self.assertRaises(IsSet) as caught:
                led.put(literal)
            self.assertEqual(caught.exception.name, name)
            with self.assertRaises(IsSet):
                led += literal
        self.assertEqual((led.choices(), led.drawn()), (["b"], ["c", "h"]))
        led.undo()
        self.assertEqual(led.put("-b"), ["-a"])
        with self.assertRaises(IsSet) as caught:
            led.put("a")
        self.assertEqual(caught.exception.name, "a")

    def test_things_in_it(self):
        led = Led(CHAIN)
        led.put("b")
        for thing in [*anything(), ["b"], ("b",), "bc", CHAIN, led]:
            self.assertIs(thing in led, False)

    def test_copies(self):
        led = Led(CHAIN)
        led.put("-a")
        twin = led.copy()
        self.assertIs(twin.__class__, Led)
        self.assertTrue(twin == led and twin is not led)
        led.put("b")
        self.assertEqual((twin.choices(), twin.drawn()), (["-a"], []))
        self.assertFalse(twin == led)
        twin.put("-c")
        self.assertEqual((led.choices(), led.drawn()), (["-a", "b"], ["c", "h"]))
        self.assertEqual((twin.choices(), twin.drawn()), (["-a", "-c"], ["-b", "-h"]))
        twin.undo(), twin.undo()
        self.assertEqual((led.choices(), len(twin)), (["-a", "b"], 0))
        dead = Led(CODE)
        dead.put("-a")
        twin = dead.copy()
        self.assertEqual((twin.is_dead(), twin.choices(), twin == dead), (True, ["-a"], True))
        self.assertEqual((twin.undo(), dead.is_dead(), twin.is_dead()), ("-a", True, False))

    def test_equal(self):
        one, other = Led(CHAIN), Led(Code(["c", "b", "a"], CHAIN.clauses()[::-1], ["h"]))
        self.assertTrue(one == other)
        one += "-a"
        self.assertTrue(one != other)
        other += "-a"
        self.assertTrue(one == other and not one != other)
        one += "-b"
        other += "b"
        self.assertFalse(one == other)
        # the order counts, not what is drawn
        one, other = Led(Code(["a", "b"], [])), Led(Code(["a", "b"], []))
        one.put("a"), one.put("b")
        other.put("b"), other.put("a")
        self.assertFalse(one == other)
        self.assertFalse(Led(CODE) == Led(CHAIN))
        for thing in [*anything(), CODE, [], ["a"], (CODE, [])]:
            self.assertFalse(Led(CODE) == thing)
            self.assertTrue(Led(CODE) != thing)

    def test_plus_is_the_same_object(self):
        led = first = Led(CODE)
        led += "-b"
        self.assertIs(led, first)
        self.assertEqual(led.choices(), ["-b"])

    def test_lists_are_the_callers_own(self):
        led = Led(CHAIN)
        led.put("b").append(1)
        led.choices().append(1)
        led.drawn().append(1)
        led.why("c").append(1)
        self.assertEqual((led.choices(), led.drawn(), led.why("c")), (["b"], ["c", "h"], ["b"]))

    def test_by_name(self):
        led = Led(code=CHAIN)
        self.assertEqual((led.put(literal="b"), led.why(literal="c")), (["c", "h"], ["b"]))

    def test_any_number_of_signs(self):
        code = Code(LONG, [["-" + one, other] for one, other in zip(LONG, LONG[1:])])
        led = Led(code)
        self.assertEqual(led.put(LONG[2000]), LONG[2001:])
        self.assertEqual(led.put("-" + LONG[1000]), ["-" + name for name in LONG[:1000]])
        self.assertEqual(led.why(LONG[-1]), [LONG[2000]])
        self.assertEqual((led.undo(), len(led.drawn())), ("-" + LONG[1000], len(LONG) - 2001))
        for name in LONG[:500]:
            led.put("-" + name)
        self.assertEqual((len(led), led.why(LONG[-1])), (501, [LONG[2000]]))


class Why(unittest.TestCase):
    """[29] Why"""

    def some_led(self, rnd, code):
        led, plain = Led(code), Plain(code)
        for literal in shuffled(rnd, [rnd.choice(["", "-"]) + name for name in code.signs()]):
            if not led.is_dead() and literal not in led and opposite(literal) not in led:
                led.put(literal)
                plain.put(literal)
        return led, plain

    def test_choice_by_choice(self):
        rnd = seeded(2)
        told = [0, 0, 0]
        for _ in range(500):
            led, plain = self.some_led(rnd, some_code(rnd, 6, 3, 12))
            before = led.copy()
            if led.is_dead():
                told[0] += 1
                self.assertEqual(led.blame(), plain.kept(None))
                for thing in ("a", "-a", "h", 0, None):
                    self.assertRaises(Dead, led.why, thing)
            else:
                self.assertRaises(NotDead, led.blame)
                for literal in led.drawn():
                    kept = led.why(literal)
                    self.assertEqual(kept, plain.kept(literal))
                    told[1 if len(kept) < len(led) else 2] += 1
            self.assertEqual((led, led.drawn(), led.is_dead()), (before, before.drawn(), before.is_dead()))
            # it goes on as if nothing had been asked
            if len(led):
                self.assertEqual(led.undo(), plain.put_so_far.pop())
                self.assertEqual(led.drawn(), plain.drawn())
        self.assertTrue(min(told) > 50)

    def test_fact(self):
        rnd = seeded(3)
        for _ in range(200):
            code = some_code(rnd, 5, 3, 12)
            names = code.signs() + code.helpers()
            total = [row for row in all_full(names) if fits(row, code.clauses())]
            led, _ = self.some_led(rnd, code)
            if led.is_dead():
                told = [[opposite(choice) for choice in led.blame()]]
            else:
                told = [[opposite(choice) for choice in led.why(literal)] + [literal] for literal in led.drawn()]
            for clause in told:
                self.assertTrue(all(set(clause) & set(row) for row in total))
                if all(literal.lstrip("-") in code.signs() for literal in clause):
                    allowed = plain_rule(code.signs(), code.clauses(), code.helpers())
                    self.assertTrue(all(set(clause) & set(row) for row in allowed))

    def test_from_the_first_one_on(self):
        # each of a and b draws c: the first one is left out
        led = Led(Code(["a", "b", "c"], [["-a", "c"], ["-b", "c"]]))
        led.put("a"), led.put("b")
        self.assertEqual(led.why("c"), ["b"])
        led = Led(Code(["a", "b", "c"], [["-a", "c"], ["-b", "c"]]))
        led.put("b"), led.put("a")
        self.assertEqual(led.why("c"), ["a"])
        led = Led(Code(["a", "b", "c", "d"], [["-a", "-b", "-d"], ["-c", "-b", "-d"], ["-a", "-c", "-d"]]))
        led.put("a"), led.put("b")
        self.assertEqual((led.drawn(), led.why("-d")), (["-d"], ["a", "b"]))
        led.put("c")
        self.assertEqual(led.why("-d"), ["b", "c"])

    def test_drawn_from_nothing(self):
        led = Led(Code(["a", "b"], [["a"]]))
        self.assertEqual(led.why("a"), [])
        led.put("b")
        self.assertEqual(led.why("a"), [])

    def test_helpers(self):
        led = Led(CHAIN)
        led.put("b")
        self.assertEqual((led.why("h"), led.why("c")), (["b"], ["b"]))

    def test_blame(self):
        led = Led(Code(["a", "b", "c", "d"], [["-a", "-c", "d"], ["-c", "-d"], ["-b", "-d"]]))
        led.put("b")
        self.assertRaises(NotDead, led.blame)
        self.assertEqual(led.drawn(), ["-d"])
        led.put("a")
        self.assertEqual(led.why("-c"), ["b", "a"])
        led.undo()
        led.put("c")
        self.assertFalse(led.is_dead())
        self.assertEqual(led.drawn(), ["-a", "-d"])
        # where one choice is enough
        led = Led(Code(["a", "b"], [["a", "h"], ["a", "-h"]], ["h"]))
        led.put("b")
        led.put("-a")
        self.assertEqual((led.is_dead(), led.blame()), (True, ["-a"]))
        self.assertEqual((led.blame(), led.choices()), (["-a"], ["b", "-a"]))

    def test_what_is_not_drawn(self):
        led = Led(CHAIN)
        led.put("b")
        for thing in [*anything(), "b", "-b", "a", "-a", "-c", "-h", "d", ["c"], ("c",)]:
            with self.assertRaises(NotDrawn) as caught:
                led.why(thing)
            self.assertIs(caught.exception.literal, thing)
        self.assertEqual((led.choices(), led.drawn()), (["b"], ["c", "h"]))
        led = Led(CODE)
        led.put("-a")
        for thing in [*anything(), "-a", "h", "c"]:
            self.assertRaises(Dead, led.why, thing)


def plain_solved(code, order):
    """By the words of [30], going through all settings in the order, with the turns counted."""
    names = code.signs() + code.helpers()
    allowed = {frozenset(row) for row in plain_rule(code.signs(), code.clauses(), code.helpers())}
    turns = [0]

    def go_on(choices):
        so = plain_closure(code.clauses(), choices)
        if so is None:
            return None
        for literal in order:
            if literal not in so and opposite(literal) not in so:
                found = go_on([*choices, literal])
                if found is None:
                    turns[0] += 1
                    found = go_on([*choices, opposite(literal)])
                return found
        setting = [literal for literal in literals_of(names) if literal in so and literal.lstrip("-") in code.signs()]
        return setting if frozenset(setting) in allowed else None

    found = go_on([])
    return ("none", turns[0]) if found is None else ("found", tuple(found), turns[0])


class Solved(unittest.TestCase):
    """[30] Solved"""

    def test_by_going_through_all(self):
        rnd = seeded(4)
        met = {"found": [], "none": []}
        for _ in range(600):
            code = some_code(rnd, 6, 3, rnd.choice([8, 16, 24]))
            if rnd.random() < 0.4:
                # clauses of many literals are followed late
                names = code.signs() + code.helpers()
                many = rnd.randint(10, 60)
                clauses = [[rnd.choice(["", "-"]) + name for name in rnd.sample(names, len(names) * 3 // 5)]
                           for _ in range(many)]
                code = Code(code.signs(), clauses, code.helpers())
            order = shuffled(rnd, [rnd.choice(["", "-"]) + name for name in code.signs()])
            before = list(order)
            found = solved(code, order)
            self.assertEqual(found, plain_solved(code, order))
            self.assertEqual((found.__class__, order, solved(code, tuple(order))), (tuple, before, found))
            met[found[0]].append(found[-1])
        self.assertTrue(max(met["found"]) > 3 and max(met["none"]) > 4 and 0 in met["none"],
                        (max(met["found"]), max(met["none"])))

    def test_helpers_that_following_does_not_reach(self):
        # whatever a and b are, no setting of the helpers goes with a
        split = [[literal, side] for literal in ("h", "-h") for side in ("k", "-k")]
        code = Code(["a", "b"], [["-a", *clause] for clause in split], ["h", "k"])
        self.assertEqual(solved(code, ["a", "b"]), ("found", ("-a", "b"), 2))
        self.assertEqual(solved(code, ["b", "a"]), ("found", ("-a", "b"), 1))
        self.assertEqual(solved(code, ["-b", "-a"]), ("found", ("-a", "-b"), 0))
        self.assertEqual(solved(Code(["a", "b"], split, ["h", "k"]), ["a", "b"]), ("none", 3))
        self.assertEqual(solved(Code([], split, ["h", "k"]), []), ("none", 0))

    def test_document(self):
        web = whole(Rule(["a", "b"], [["a", "b"], ["-a", "-b"]])) + whole(Rule(["b", "c"], [["b", "-c"], ["-b", "c"]]))
        self.assertEqual([solved(CODE, ["-a", "-b"]), solved(web, ["a", "-c", "b"])],
                         [("found", ("a", "b"), 1), ("found", ("a", "b", "-c"), 0)])

    def test_edges(self):
        self.assertEqual(solved(Code([], []), []), ("found", (), 0))
        self.assertEqual(solved(Code([], [[]]), ()), ("none", 0))
        self.assertEqual(solved(DEAD, ["a", "b"]), ("none", 0))
        self.assertEqual(solved(Code(["a"], [["a"]]), ["-a"]), ("found", ("a",), 0))
        self.assertEqual(solved(Code(["b", "a"], []), ["-a", "b"]), ("found", ("b", "-a"), 0))
        self.assertEqual(solved(Code([], [["h"]], ["h"]), []), ("found", (), 0))

    def test_facts(self):
        rnd = seeded(5)
        none = 0
        for code in small_codes(6, 400):
            order = shuffled(rnd, [rnd.choice(["", "-"]) + name for name in code.signs()])
            found = solved(code, order)
            if sees(code) and len(code.rule()):
                self.assertEqual((found[0], found[-1]), ("found", 0))
            if sees(code, "dead") and len(code.rule()):
                self.assertEqual(found[0], "found")
                self.assertLessEqual(found[-1], len(code.signs()))
            none += found[0] == "none"
            self.assertEqual(found[0] == "none", len(code.rule()) == 0)
            if found[0] == "found":
                self.assertIn(found[1], code.rule())
        self.assertTrue(none > 10)

    def test_all_turns_of_a_large_tree(self):
        # 12 signs that say nothing, and then none that goes
        split = [[literal, side] for literal in ("h", "-h") for side in ("k", "-k")]
        code = Code(LONG[:12], split, ["h", "k"])
        self.assertEqual(solved(code, LONG[:12]), ("none", 2 ** 12 - 1))
        code = Code(LONG[:12], [[LONG[0], *clause] for clause in split], ["h", "k"])
        self.assertEqual(solved(code, ["-" + name for name in LONG[:12]])[-1], 2 ** 11)
        self.assertEqual(solved(code, ["-" + name for name in LONG[11::-1]])[-1], 1)

    def test_any_number_of_signs(self):
        code = Code(LONG, [["-" + one, other] for one, other in zip(LONG, LONG[1:])])
        self.assertEqual(solved(code, LONG), ("found", tuple(LONG), 0))
        self.assertEqual(solved(code, ["-" + name for name in LONG]), ("found", tuple("-" + name for name in LONG), 0))
        order = [name if at % 2 else "-" + name for at, name in enumerate(LONG)]
        self.assertEqual(solved(code, order), ("found", ("-" + LONG[0], *LONG[1:]), 0))

    def test_codes_of_the_package(self):
        rnd = seeded(7)
        for _ in range(10):
            names = shuffled(rnd, SIX)[:rnd.randint(1, 6)]
            rule = some_rule(rnd, names)
            order = shuffled(rnd, [rnd.choice(["", "-"]) + name for name in names])
            for code in (whole(rule), rows(rule, MANY[:len(rule)]), lifted(whole(rule)),
                         either(whole(rule), whole(rule))):
                found = solved(code, order)
                self.assertEqual(found[-1], 0)
                self.assertEqual(found[0], "found" if len(rule) else "none")
            self.assertEqual(solved(direct(rule), order), plain_solved(direct(rule), order))

    def raised(self, code, order):
        with self.assertRaises(BadSetting) as caught:
            solved(code, order)
        return caught.exception.index

    def test_wrong_orders(self):
        for thing in no_lists():
            self.assertEqual(self.raised(CODE, thing), 0)
        for thing in [*anything(), "h", "-h", "b", "-b", "c", ["a"]]:
            self.assertEqual(self.raised(CODE, ["b", thing]), 1)
            self.assertEqual(self.raised(CODE, ["b", thing, 0]), 1)
            self.assertEqual(self.raised(CODE, ("-b", "a", thing)), 2)
        self.assertEqual([self.raised(CODE, order) for order in ([], ["a"], ["-b"], [0], ["a", "-a"])], [0, 1, 1, 0, 1])
        self.assertEqual(self.raised(Code(SEVEN, [[]]), SEVEN[:-1]), 6)
        self.assertEqual(self.raised(Code([], [[]]), ["a"]), 0)
        self.assertEqual(self.raised(DEAD, ["a"]), 1)

    def test_by_name(self):
        self.assertEqual(solved(order=["-a", "-b"], code=CODE), ("found", ("a", "b"), 1))


class WithDrawnCodes(unittest.TestCase):
    """put and follow tell the same."""

    def test_put_and_follow(self):
        rnd = seeded(8)
        for _ in range(100):
            names = shuffled(rnd, SEVEN)
            code = Code(names[:5], some_clauses(rnd, names, 10), names[5:])
            led = Led(code)
            for literal in [rnd.choice(["", "-"]) + name for name in names[:5]]:
                if not led.is_dead() and literal not in led and opposite(literal) not in led:
                    led.put(literal)
                    self.assertEqual(led.drawn(), follow(code, led.choices()))


if __name__ == "__main__":
    unittest.main()
