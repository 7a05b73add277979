"""What several tests use: objects of all kinds, and slow but plain ways to find what the document says."""

import itertools
import random

from lastopen.codes import Code
from lastopen.errors import BadNames
from lastopen.leading import Led
from lastopen.rules import Rule
from lastopen.webs import Web

SIX = ["a", "b", "c", "d", "e", "f"]
SEVEN = [*SIX, "g"]
LEVELS = ("dead", "forced", "all")
MANY = ["h" + x + y for x in "abcdefgh" for y in "abcdefgh"]


def anything():
    """Objects of all kinds, none of which is a name, a literal, or a list of such (but for empty lists)."""
    nested = []
    nested.append(nested)
    return [0, 1, -1, 10 ** 5000, True, False, None, "", "-", "A", "a b", "a1", "--x", " x", "x\n", "\u00e4", "\u00df",
            "abcdefghi", "-abcdefghi", [0], [None], [[]], [["a"]], (1,), ((),), nested, {}, {"a": 1}, {1: "a"},
            Rule(["a"], [["a"]]), Rule([], []), Code(["a"], [["a"]]), Code([], []), Web([Code(["a"], [["a"]])]),
            Led(Code(["a"], [])), BadNames(0), Rule, len]


def no_lists():
    """Those of these objects that are no lists."""
    return [thing for thing in anything() if not isinstance(thing, (list, tuple))] + ["a", "ab", "-a"]


def opposite(literal):
    return literal[1:] if literal[0] == "-" else "-" + literal


def all_full(names):
    """All full settings in order."""
    return list(itertools.product(*[(name, "-" + name) for name in names]))


def all_partial(names):
    """All lists of ascending literals of unlike names, ordered."""
    place = {}
    for name in names:
        place[name] = len(place)
        place["-" + name] = len(place)
    choices = itertools.product(*[("", name, "-" + name) for name in names])
    rows = [tuple(literal for literal in choice if literal) for choice in choices]
    return sorted(rows, key=lambda row: (len(row), [place[literal] for literal in row]))


def fits(row, clauses):
    return all(any(literal in row for literal in clause) for clause in clauses)


def plain_shortest(names, settings):
    """The shortest consequences, by trying all clauses and all of their parts."""
    holding = [clause for clause in all_partial(names) if fits_all(settings, clause)]
    return [clause for clause in holding if not any(set(part) < set(clause) for part in holding)]


def fits_all(settings, clause):
    return all(any(literal in row for literal in clause) for row in settings)


def plain_rule(signs, clauses, helpers):
    """The allowed settings, by trying all settings of the helpers."""
    return [row for row in all_full(signs) if any(fits(row + rest, clauses) for rest in all_full(helpers))]


def shuffled(rnd, things):
    things = list(things)
    rnd.shuffle(things)
    return things


def some_rule(rnd, names):
    """A random rule of these names."""
    part = rnd.choice([0, 0.1, 0.3, 0.5, 0.7, 0.9, 1])
    return Rule(names, [shuffled(rnd, row) for row in all_full(names) if rnd.random() < part])


def some_clauses(rnd, names, most):
    """Random clauses of these names."""
    rows = []
    for _ in range(rnd.randint(0, most)):
        size = min(len(names), rnd.choice([1, 2, 2, 2, 3, 3, 3, 4]))
        rows.append([rnd.choice(["", "-"]) + name for name in rnd.sample(names, size)])
    return rows


def some_code(rnd, most_signs=4, most_helpers=4, most_clauses=12):
    """A random code."""
    names = shuffled(rnd, [*SIX, "g", "h"])
    signs = names[:rnd.randint(0, most_signs)]
    helpers = names[len(signs):len(signs) + rnd.randint(0, most_helpers)]
    return Code(signs, some_clauses(rnd, signs + helpers, most_clauses), helpers)


def small_codes(number, many):
    """Random codes of few names."""
    rnd = seeded(number)
    for _ in range(many):
        names = shuffled(rnd, SIX)[:rnd.choice([0, 1, 2, 3, 3, 4, 4, 4, 5])]
        cut = rnd.randint(0, len(names))
        yield Code(names[:cut], some_clauses(rnd, names, 9), names[cut:])


def some_partial(rnd, names):
    """A random half-filled setting of these names."""
    return [rnd.choice(["", "-"]) + name for name in rnd.sample(names, rnd.randint(0, len(names)))]


def plain_closure(clauses, setting):
    """All literals that are so in the end of following, or None at a dead end; clause by clause, again and again."""
    so = set(setting)
    while True:
        before = len(so)
        for clause in clauses:
            left = [literal for literal in clause if opposite(literal) not in so]
            if not left:
                return None
            if len(left) == 1:
                so.add(left[0])
        if len(so) == before:
            return so


def plain_follow(names, clauses, setting):
    """The literals that come to be drawn, ascending."""
    so = plain_closure(clauses, setting)
    if so is None:
        return None
    return [literal for name in names for literal in (name, "-" + name) if literal in so and literal not in setting]


def plain_forced(settings, names, given):
    """The further literals that all of the settings with the given ones have."""
    having = [row for row in settings if set(given) <= set(row)]
    if not having:
        return None
    return [literal for name in names for literal in (name, "-" + name)
            if literal not in given and all(literal in row for row in having)]


def plain_blinds(code, level):
    """All blind settings, in order, each with the first literal that is not drawn there, or None."""
    names = code.signs() + (code.helpers() if level == "all" else [])
    settings = plain_rule(names, code.clauses(), [] if level == "all" else code.helpers())
    found = []
    for setting in all_partial(names):
        so = plain_closure(code.clauses(), setting)
        forced = plain_forced(settings, names, setting)
        if so is not None and forced is None:
            found.append((setting, None))
        elif so is not None and level != "dead" and not set(forced) <= so:
            found.append((setting, [literal for literal in forced if literal not in so][0]))
    return found


def seeded(number):
    return random.Random(number)
