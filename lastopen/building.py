"""Building: codes made from other codes."""

from lastopen.codes import Code, numbered
from lastopen.errors import BadLiteral, NoHelper, NoSign, UnlikeSigns
from lastopen.following import literals_at, trail_of
from lastopen.groups import group_of, numbers_of
from lastopen.inner import Inner, new_names
from lastopen.joins import group_joins, joins_with_shared
from lastopen.literals import literals_of, name_of, opposite
from lastopen.trails import SO


def put_out(code, name):
    """The code without this helper, with the joins of the clauses that have it and those that have its opposite."""
    check_helper(code, name)
    return without_helpers(code, [name])


def bare(code):
    """The code without helpers, which are put out one by one."""
    return without_helpers(code, code.own_helpers)


def without_helpers(code, names):
    """The code without these helpers, which are put out in this order."""
    groups = [group_of(clause) for clause in numbered(code)]
    for name in names:
        groups = group_joins(groups, code.places[name])
    rest = [helper for helper in code.own_helpers if helper not in names]
    return Code(code.own_signs, [literals_at(code, numbers_of(group)) for group in groups], rest)


def sharpens(code, name):
    """Tells whether more is found without this helper at some half-filled setting of the other names.

    What a clause that stays draws is drawn as before, and what a join draws is, too, but for literals that both of
    its clauses have.
    """
    check_helper(code, name)
    trail = trail_of(code)
    groups = [group_of(clause) for clause in numbered(code)]
    for join, shared in joins_with_shared(groups, code.places[name]):
        denied = [literal ^ 1 for literal in numbers_of(join)]
        for literal in numbers_of(shared):
            if trail.lead([other for other in denied if other != literal ^ 1]) and trail.sides[literal] != SO:
                return True
    return False


def check_helper(code, name):
    """Raises NoHelper for any object that is no helper of the code."""
    if name not in code.own_helpers:
        raise NoHelper(name)


def hidden(code, name):
    """The code with this sign as its last helper."""
    if name not in code.own_signs:
        raise NoSign(name)
    return Code([sign for sign in code.own_signs if sign != name], code.clauses(), [*code.own_helpers, name])


def set_to(code, literal):
    """The code without the name of a literal, which is so."""
    if not isinstance(literal, str) or literal not in code.places:
        raise BadLiteral(literal)
    name = name_of(literal)
    denied = opposite(literal)
    clauses = [[other for other in clause if other != denied] for clause in code.rows if literal not in clause]
    signs = [sign for sign in code.own_signs if sign != name]
    return Code(signs, clauses, [helper for helper in code.own_helpers if helper != name])


def either(one, other):
    """A code of what is allowed in one of two codes; it sees as they do, if they see dead ends."""
    if set(one.own_signs) != set(other.own_signs):
        raise UnlikeSigns()
    names = new_names([one, other], many_inside(one) + many_inside(other))
    first = Inner(one, names[:many_inside(one)])
    second = Inner(other, names[many_inside(one):])
    clauses = []
    for inner in (first, second):
        clauses.extend([*inner.clauses_that_follow(), *inner.clauses_from_outside(), *inner.clauses_if_out()])
    for literal in literals_of(one.own_signs):
        clauses.append(["-" + first.denials[literal], "-" + second.denials[literal], opposite(literal)])
    # without signs nothing else would tell that one of them must not be out
    clauses.append(["-" + first.out, "-" + second.out])
    return Code(one.own_signs, clauses, names)


def lifted(code):
    """The code with helpers by which it draws what is forced, if it sees dead ends.

    For each literal of the signs it is followed as if this literal were so: if there is a dead end then, it is not.
    """
    literals = literals_of(code.own_signs)
    size = many_inside(code)
    names = new_names([code], size * len(literals))
    clauses = code.clauses()
    for at, literal in enumerate(literals):
        inner = Inner(code, names[at * size:(at + 1) * size])
        clauses.extend([*inner.clauses_that_follow(), *inner.clauses_from_outside()])
        clauses.append([inner.denials[opposite(literal)]])
        clauses.append(["-" + inner.out, opposite(literal)])
    return Code(code.own_signs, clauses, [*code.own_helpers, *names])


def many_inside(code):
    """How many helpers it takes to follow in a code by the clauses of another one."""
    return len(code.places) + 1
