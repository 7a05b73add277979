"""Following: what single clauses draw from a half-filled setting of signs and helpers."""

from lastopen.codes import is_index, numbered
from lastopen.literals import check_setting, is_list, opposite
from lastopen.trails import Trail


def follow(code, setting):
    """The ascending list of the literals that come to be drawn; None if a dead end is met."""
    check_setting(code.places, setting)
    given = places_in(code, setting)
    trail = trail_of(code)
    if not trail.lead(given):
        return None
    put = {place: True for place in given}
    return literals_at(code, sorted([int(place) for place in trail.steps if place not in put]))


def drawings(code, setting):
    """A list of pairs (index of a clause, the literal that it draws); at a dead end it ends with (index, None)."""
    check_setting(code.places, setting)
    given = places_in(code, setting)
    trail = trail_of(code)
    trail.lead(given)
    return drawings_on(code, trail, given)


def are_drawings(code, setting, thing):
    """Tells of any object whether it is a list of pairs as drawings tells them, perhaps not as many as there are."""
    check_setting(code.places, setting)
    if not is_list(thing):
        return False
    clauses = code.clauses()
    so = {literal: True for literal in setting}
    is_over = False
    for pair in thing:
        if is_over or not is_list(pair) or len(pair) != 2 or not is_index(code, pair[0]):
            return False
        literal = pair[1]
        left = [part for part in clauses[pair[0]] if opposite(part) not in so]
        if literal is None:
            is_over = True
            if left:
                return False
        elif left != [literal] or literal in so:
            return False
        else:
            so[literal] = True
    return True


def trail_of(code):
    """The trail on which the clauses of a code are followed."""
    return Trail(len(code.places) // 2, numbered(code))


def places_in(code, setting):
    """The places of the literals of a setting."""
    return [code.places[literal] for literal in setting]


def literals_at(code, places):
    """The literals at these places, as a list."""
    literals = list(code.places)
    return [literals[place] for place in places]


def drawings_on(code, trail, given):
    """The drawings on a code's trail, on which the literals at the given places were put."""
    literals = list(code.places)
    return [(index, None if place is None else literals[place]) for index, place in trail.pairs(given)]
