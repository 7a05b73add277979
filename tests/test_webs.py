"""Promises 25 to 27: joined codes, webs, webs that see."""

import unittest

from lastopen.building import either, lifted
from lastopen.codes import Code, numbered
from lastopen.errors import BadCode, BadSetting, Clash, NotTree, TooMany
from lastopen.following import follow
from lastopen.mending import grown
from lastopen.rules import Rule
from lastopen.search import Search
from lastopen.seeing import sees
from lastopen.webs import Web
from lastopen.ways import direct, rows, whole
from tests.helping import (MANY, SEVEN, SIX, all_full, all_partial, anything, fits, no_lists, opposite, plain_closure,
                           plain_forced, plain_rule, seeded, shuffled, some_clauses, some_partial, some_rule)

EVEN = whole(Rule(["a", "b"], [["a", "b"], ["-a", "-b"]]))
SAME = whole(Rule(["b", "c"], [["b", "-c"], ["-b", "c"]]))
CODE = Code(["a", "b"], [["a", "h"], ["a", "-h"], ["-a", "b"]], ["h"])
WORDS = [x + y + z for x in "pqrstuvw" for y in "abcdefghij" for z in "abcdefghij"]


def some_web(rnd, most_codes, most_signs, size, kinds=("rule", "blind", "clauses")):
    """Random codes, joined like a tree, of few signs all together."""
    signs, codes, free = [], [], shuffled(rnd, WORDS)
    numbers = {}
    for _ in range(rnd.randint(1, most_codes)):
        # at most one sign of each part that hangs together
        own = []
        for name in rnd.sample(signs, min(len(signs), rnd.choice([0, 1, 1, 1, 2]))):
            if numbers[name] not in [numbers[other] for other in own]:
                own.append(name)
        fresh = [free.pop() for _ in range(rnd.randint(0, max(0, min(size - len(own), most_signs - len(signs)))))]
        signs += fresh
        reached = {numbers[name] for name in own}
        number = len(codes)
        numbers = {name: number if at in reached else at for name, at in numbers.items()}
        numbers.update({name: number for name in own + fresh})
        codes.append(some_part(rnd, shuffled(rnd, own + fresh), free, rnd.choice(kinds)))
    return codes


def some_part(rnd, names, free, kind):
    if kind == "clauses":
        helpers = [free.pop() for _ in range(rnd.randint(0, 2))]
        return Code(names, some_clauses(rnd, names + helpers, 5), helpers)
    rule = Rule(names, [row for row in all_full(names) if rnd.random() < 0.6])
    if kind == "rule":
        return rnd.choice([whole(rule), direct(rule)])
    helper = free.pop()
    split = [[*clause, side] for clause in direct(rule).clauses() for side in (helper, "-" + helper)]
    return Code(names, rnd.sample(split, len(split)), [helper])


def plain_settings(codes):
    """The full settings of all signs that every code allows, by going through all."""
    signs = []
    for code in codes:
        signs += [name for name in code.signs() if name not in signs]
    allowed = [(code.signs(), set(plain_rule(code.signs(), code.clauses(), code.helpers()))) for code in codes]
    found = []
    for row in all_full(signs):
        sides = {literal.lstrip("-"): literal for literal in row}
        if all(tuple(sides[name] for name in names) in part for names, part in allowed):
            found.append(row)
    return signs, found


def searched_forced(code, setting):
    """What is forced in all clauses together, literal by literal, by a search."""
    search = Search(len(code.signs() + code.helpers()), numbered(code))
    given = [code.places[literal] for literal in setting]
    if search.filled(given) is None:
        return None
    return [literal for name in code.signs() for literal in (name, "-" + name)
            if literal not in setting and search.filled([*given, code.places[opposite(literal)]]) is None]


class Webs(unittest.TestCase):
    """[25] Joined codes"""

    def raised(self, error, things):
        with self.assertRaises(error) as caught:
            Web(things)
        self.assertIs(caught.exception.__class__, error)
        return caught.exception

    def test_trees_are_taken(self):
        rnd = seeded(1)
        for _ in range(200):
            codes = some_web(rnd, 8, 12, 4)
            self.assertEqual(len(Web(codes)), len(codes))

    def test_no_lists_of_codes(self):
        for thing in [*no_lists(), EVEN, EVEN.rule(), {}, {"a": EVEN}, [], ()]:
            self.assertEqual(self.raised(BadCode, thing).index, 0)
        for thing in [*anything(), [EVEN], (EVEN,), Web([EVEN]), Rule([], []), "a"]:
            if not isinstance(thing, Code):
                self.assertEqual(self.raised(BadCode, [thing]).index, 0)
                self.assertEqual(self.raised(BadCode, (EVEN, SAME, thing, thing)).index, 2)
                # ahead of all others
                self.assertEqual(self.raised(BadCode, [EVEN, EVEN, Code(SEVEN, []), thing]).index, 3)

    def test_too_many_signs(self):
        for n in (7, 8, 30):
            self.assertEqual(self.raised(TooMany, [Code(MANY[:n], [])]).n, n)
            self.assertEqual(self.raised(TooMany, [EVEN, Code(MANY[:n], [[]])]).n, n)
        self.assertEqual(len(Web([Code(SIX, [], MANY)])), 1)

    def test_clashes(self):
        one = Code(["a", "b"], [], ["h", "k"])
        self.assertEqual(self.raised(Clash, [one, Code(["c"], [], ["x", "h"])]).name, "h")
        self.assertEqual(self.raised(Clash, [one, Code(["c"], [], ["k", "h"])]).name, "k")
        self.assertEqual(self.raised(Clash, [one, Code(["c"], [], ["x", "b"])]).name, "b")
        self.assertEqual(self.raised(Clash, [one, Code(["c", "k", "h"], [])]).name, "k")
        # its helpers ahead of its signs
        self.assertEqual(self.raised(Clash, [one, Code(["c", "k"], [], ["x", "a"])]).name, "a")
        # with any code ahead
        third = Code(["c"], [], ["b"])
        self.assertEqual(self.raised(Clash, [one, Code(["c"], []), Code(["d"], []), third]).name, "b")
        self.assertEqual(self.raised(Clash, [one, one]).name, "h")

    def test_no_trees(self):
        self.assertEqual(self.raised(NotTree, [EVEN, EVEN]).index, 1)
        self.assertEqual(self.raised(NotTree, [EVEN, SAME, Code(["c", "a"], [])]).index, 2)
        # they hang together if they stand in one code, whatever its clauses are
        self.assertEqual(self.raised(NotTree, [Code(["a", "b"], []), Code(["d"], []), Code(["b", "c", "a"], [])]).index, 2)
        apart = [Code(["a", "b"], []), Code(["c", "d"], []), Code(["e", "f"], [])]
        self.assertEqual(len(Web([*apart, Code(["a", "c", "f"], [])])), 4)
        # from then on these hang together
        self.assertEqual(self.raised(NotTree, [*apart, Code(["a", "c", "f"], []), Code(["b", "e"], [])]).index, 4)
        self.assertEqual(self.raised(NotTree, [*apart, Code(["a", "c"], []), Code(["d", "b"], [])]).index, 4)
        self.assertEqual(len(Web([*apart, Code(["a", "c"], []), Code(["d", "f"], []), Code(["e"], [])])), 6)
        self.assertEqual(len(Web([EVEN, Code(["a"], [["a"]]), Code(["a"], []), Code([], []), Code(["b", "c"], [])])), 5)

    def test_code_by_code(self):
        helper = Code(["a", "b"], [], ["h"])
        seven = Code(SEVEN, [])
        self.assertEqual(self.raised(NotTree, [helper, EVEN, seven, helper]).index, 1)
        self.assertEqual(self.raised(TooMany, [helper, seven, EVEN, helper]).n, 7)
        self.assertEqual(self.raised(Clash, [helper, helper, seven, EVEN]).name, "h")
        # for one code: too many, a clash, no tree
        self.assertEqual(self.raised(TooMany, [helper, Code(SEVEN, [], ["h"])]).n, 7)
        self.assertEqual(self.raised(Clash, [helper, Code(["a", "b"], [], ["h"])]).name, "h")
        self.assertEqual(self.raised(Clash, [helper, Code(["a", "b", "h"], [])]).name, "h")

    def test_fact_of_joined_codes(self):
        rnd = seeded(2)
        for _ in range(60):
            names = shuffled(rnd, SIX)
            cut = rnd.randint(0, 3)
            shared = rnd.randint(0, 1)
            one, other = some_rule(rnd, names[:cut + shared]), some_rule(rnd, names[cut:cut + rnd.randint(shared, 3)])
            first = grown(rnd.choice([direct(one), rows(one, MANY[:len(one)])]))
            joined = first + whole(other)
            self.assertTrue(len(joined.signs()) > 6 or sees(joined))

    def test_fact_two_signs_or_only_dead(self):
        # with two signs in common
        one, other = EVEN, Code(["a", "b"], [["a", "b"]])
        self.assertTrue(sees(one) and sees(other) and not sees(one + other))
        # with one of them only "dead"
        one, other = Code(["a", "b"], [["a", "h"], ["a", "-h"], ["-a", "b"]], ["h"]), Code(["b", "c"], [["-b", "c"]])
        self.assertTrue(sees(one, "dead") and sees(other) and not sees(one + other))


class WebsAsked(unittest.TestCase):
    """[26] Webs asked"""

    def test_codes(self):
        codes = [EVEN, SAME, Code(["d"], [])]
        web = Web(codes)
        self.assertEqual((web.codes(), len(web)), (codes, 3))
        codes.append(1)
        web.codes().append(2)
        self.assertEqual((web.codes(), len(web)), (codes[:3], 3))
        self.assertIs(web.codes().__class__, list)
        self.assertEqual(Web(tuple(codes[:3])).codes(), codes[:3])

    def test_joined_code(self):
        rnd = seeded(3)
        for _ in range(100):
            codes = some_web(rnd, 6, 10, 4)
            joined = codes[0]
            for code in codes[1:]:
                joined = joined + code
            found = Web(codes).code()
            self.assertIs(found.__class__, Code)
            self.assertEqual((found.signs(), found.helpers(), found.clauses()),
                             (joined.signs(), joined.helpers(), joined.clauses()))

    def test_forced_by_all_full_settings(self):
        rnd = seeded(4)
        met = [0, 0, 0]
        for _ in range(150):
            codes = some_web(rnd, 6, 8, 4)
            web = Web(codes)
            signs, settings = plain_settings(codes)
            self.assertEqual(web.code().signs(), signs)
            for setting in [[], *[some_partial(rnd, signs) for _ in range(6)]]:
                before = list(setting)
                expected = plain_forced(settings, signs, setting)
                self.assertEqual(web.forced(setting), expected)
                self.assertEqual(web.forced(tuple(setting)), expected)
                self.assertEqual(setting, before)
                met[0 if expected is None else 1 if expected else 2] += 1
        self.assertTrue(min(met) > 100)

    def test_forced_in_long_webs(self):
        names = WORDS[:200]
        links = [whole(Rule([one, other], [[one, other], ["-" + one, "-" + other]]))
                 for one, other in zip(names, names[1:24])]
        for codes in (links, links[::-1], shuffled(seeded(5), links)):
            web = Web(codes)
            order = web.code().signs()
            self.assertEqual(web.forced([names[0]]), [name for name in order if name != names[0]])
            self.assertEqual(web.forced(["-" + names[20]]), ["-" + name for name in order if name != names[20]])
            self.assertIsNone(web.forced([names[0], "-" + names[23]]))
            self.assertEqual(web.forced([]), [])
        star = [Code([names[0], name], [[name, "-" + names[0]]]) for name in names[1:25]]
        self.assertEqual(Web(star).forced([names[0]]), names[1:25])
        self.assertEqual(Web(star).forced(["-" + names[7]]), ["-" + names[0]])

    def test_forced_in_large_webs_by_a_search(self):
        rnd = seeded(6)
        told = 0
        for _ in range(12):
            codes = some_web(rnd, 24, 80, 6)
            web = Web(codes)
            signs = web.code().signs()
            for _ in range(4):
                setting = some_partial(rnd, signs)[:rnd.randint(0, 5)]
                found = web.forced(setting)
                self.assertEqual(found, searched_forced(web.code(), setting))
                told += found is not None
        self.assertTrue(told > 10)

    def test_forced_by_parts_that_do_not_hang_together(self):
        web = Web([EVEN, Code([], [["h"], ["-h"]], ["h"])])
        self.assertEqual([web.forced(setting) for setting in ([], ["a"])], [None, None])
        web = Web([EVEN, Code(["d"], [["d", "h"], ["d", "-h"]], ["h"])])
        self.assertEqual([web.forced(setting) for setting in ([], ["a"], ["-d"])], [["d"], ["b", "d"], None])
        self.assertEqual(Web([Code([], [])]).forced([]), [])
        self.assertIsNone(Web([Code([], [[]])]).forced([]))

    def test_document(self):
        web = Web([EVEN, SAME])
        self.assertEqual([len(web), web.sees(), web.forced(["a"]), follow(web.code(), ["c"])],
                         [2, True, ["b", "-c"], ["-a", "-b"]])

    def test_wrong_settings(self):
        web = Web([CODE, SAME])
        for thing in no_lists():
            with self.assertRaises(BadSetting) as caught:
                web.forced(thing)
            self.assertEqual(caught.exception.index, 0)
        for thing in [*anything(), "h", "-h", "d", "a", "-a", ["b"]]:
            for setting in (["a", thing], ("-a", thing, 0)):
                with self.assertRaises(BadSetting) as caught:
                    web.forced(setting)
                self.assertEqual(caught.exception.index, 1)
        with self.assertRaises(BadSetting) as caught:
            web.forced(["h"])
        self.assertEqual(caught.exception.index, 0)

    def test_equal(self):
        self.assertTrue(Web([EVEN, SAME]) == Web((EVEN, SAME)))
        self.assertFalse(Web([EVEN, SAME]) != Web([EVEN, SAME]))
        self.assertFalse(Web([EVEN, SAME]) == Web([SAME, EVEN]))
        self.assertFalse(Web([EVEN]) == Web([EVEN, SAME]))
        # codes are equal whatever the order of their names is
        turned = Code(["b", "a"], [clause[::-1] for clause in EVEN.clauses()[::-1]])
        self.assertTrue(Web([turned, SAME]) == Web([EVEN, SAME]))
        for thing in [*anything(), EVEN, [EVEN], (EVEN,)]:
            self.assertFalse(Web([EVEN]) == thing)
            self.assertTrue(Web([EVEN]) != thing)

    def test_by_name(self):
        self.assertEqual(Web(codes=[EVEN]).forced(setting=["a"]), ["b"])

    def test_lists_are_the_callers_own(self):
        web = Web([EVEN, SAME])
        web.forced(["a"]).append(1)
        self.assertEqual(web.forced(["a"]), ["b", "-c"])


class WebsThatSee(unittest.TestCase):
    """[27] Webs that see"""

    def plain_blinds(self, web):
        """Whether following misses something, at each half-filled setting of the signs."""
        signs, settings = plain_settings(web.codes())
        clauses = web.code().clauses()
        for setting in all_partial(signs):
            so = plain_closure(clauses, setting)
            forced = plain_forced(settings, signs, setting)
            if so is not None and (forced is None or not set(forced) <= so):
                return True
        return False

    def check(self, web):
        found = web.blind()
        self.assertEqual(web.blind(), found)
        self.assertEqual(Web(web.codes()).blind(), found)
        self.assertIs(web.sees(), found is None)
        if found is not None:
            self.assertEqual((found.__class__, found[0].__class__), (tuple, tuple))
            setting, literal = found
            places = [web.code().places[part] for part in setting]
            self.assertEqual(places, sorted(places))
            self.assertEqual(len({place // 2 for place in places}), len(places))
            self.assertTrue(all(part.lstrip("-") in web.code().signs() for part in setting))
            so = plain_closure(web.code().clauses(), setting)
            self.assertIsNotNone(so)
            forced = web.forced(setting)
            if literal is None:
                self.assertIsNone(forced)
            else:
                self.assertIn(literal, forced)
                self.assertNotIn(literal, so)
        return found

    def test_by_all_half_filled_settings(self):
        rnd = seeded(7)
        met = [0, 0, 0]
        for _ in range(400):
            web = Web(some_web(rnd, 5, 6, 4))
            found = self.check(web)
            self.assertIs(found is not None, self.plain_blinds(web))
            met[0 if found is None else 1 if found[1] is None else 2] += 1
        self.assertTrue(min(met) > 20)

    def test_large_webs(self):
        rnd = seeded(8)
        met = [0, 0]
        for _ in range(25):
            codes = some_web(rnd, 24, 90, 6)
            found = self.check(Web(codes))
            met[found is None] += 1
            if all(sees(code) for code in codes):
                self.assertIsNone(found)
            codes = some_web(rnd, 24, 90, 6, ("rule",))
            codes = [grown(code) for code in codes]
            self.assertTrue(Web(codes).sees())
        self.assertTrue(min(met) > 3)

    def test_fact(self):
        rnd = seeded(9)
        for _ in range(150):
            web = Web(some_web(rnd, 6, 12, 4))
            drawn = follow(web.code(), [])
            forced = web.forced([])
            if drawn is None:
                expected = True
            elif forced is None or not set(forced) <= set(drawn):
                expected = False
            else:
                expected = all(sees(code.more([[literal] for literal in forced if literal.lstrip("-") in code.signs()]))
                               for code in web.codes())
            self.assertIs(web.sees(), expected)

    def test_blind_codes_that_see_joined(self):
        # a is forced, not drawn, by one code; another one draws it
        self.assertEqual(Web([CODE]).blind(), ((), "a"))
        self.assertIsNone(Web([CODE, Code(["a"], [["a"]])]).blind())
        self.assertIsNone(Web([CODE, Code(["a", "c"], [["a", "c"], ["-c"]])]).blind())
        # what is found joined by a dead end
        self.assertIsNone(Web([CODE, Code(["b"], [["b"], ["-b"]])]).blind())
        self.assertEqual(Web([CODE, Code(["b"], [["-b"]])]).blind(), None)
        # a dead end far away is met at each setting
        self.assertIsNone(Web([CODE, Code(["d"], [["d", "x"], ["d", "-x"], ["-d"]], ["x"])]).blind())

    def test_seeing_codes_that_are_blind_joined(self):
        # with two signs in common this would be, but it is no web
        with self.assertRaises(NotTree):
            Web([EVEN, Code(["a", "b"], [["a", "b"]])])
        # with one sign in common, but only "dead"
        dead = Code(["a", "b"], [["a", "b", "h"], ["a", "b", "k"], ["-h", "-k"], ["-h", "k"]], ["h", "k"])
        self.assertTrue(sees(dead, "dead") and not sees(dead))
        self.assertFalse(self.check(Web([dead, Code(["b", "c"], [["-b", "c"]])])) is None)

    def test_a_dead_end_that_is_not_met(self):
        split = [[literal, side] for literal in ("h", "-h") for side in ("k", "-k")]
        web = Web([EVEN, Code(["b"], split, ["h", "k"])])
        self.assertEqual((web.blind(), web.sees(), web.forced([])), (((), None), False, None))
        web = Web([Code([], split, ["h", "k"])])
        self.assertEqual(web.blind(), ((), None))

    def test_ascending_by_the_names_of_the_web(self):
        blind = Code(["c", "a", "b"], [["c", "a", "b", "h"], ["c", "a", "b", "-h"]], ["h"])
        found = self.check(Web([Code(["b"], []), Code(["a"], []), blind]))
        self.assertEqual(found[0], tuple(literal for literal in ("-b", "-a", "-c") if literal in found[0]))
        self.assertEqual(len(found[0]), 2)

    def test_edges(self):
        for web in (Web([Code([], [])]), Web([Code([], [[]])]), Web([Code(SIX, [])]), Web([Code([], [["h"]], ["h"])])):
            self.assertIsNone(web.blind())
            self.assertIs(web.sees(), True)

    def test_of_what_the_package_returns(self):
        rule = Rule(["a", "b", "c"], [["a", "-b", "c"], ["-a", "b", "c"]])
        made = lifted(Code(["a", "b", "c"], [[*clause, side] for clause in rule.shortest() for side in ("h", "-h")], ["h"]))
        far = either(whole(Rule(["x", "y"], [["x", "y"]])), whole(Rule(["x", "y"], [["-x", "-y"]])))
        # its further names are told anew, so that they do not clash
        names = {name: "z" + WORDS[at] for at, name in enumerate(far.helpers())}
        told = [[("-" if literal[0] == "-" else "") + names.get(literal.lstrip("-"), literal.lstrip("-"))
                 for literal in clause] for clause in far.clauses()]
        web = Web([made, Code(far.signs(), told, list(names.values())), Code(["a", "x"], [["a", "x"]])])
        self.assertTrue(web.sees())
        self.assertEqual(web.forced(["-y"]), ["a", "-b", "c", "-x"])
        self.assertEqual(set(follow(web.code(), ["-y"])) & set(web.forced(["-y"])), set(web.forced(["-y"])))


if __name__ == "__main__":
    unittest.main()
