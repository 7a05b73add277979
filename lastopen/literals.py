"""Names and literals, lists of them, and the errors that tell of wrong ones."""

from lastopen.errors import BadNames, BadSetting, TooMany

LETTERS = "abcdefghijklmnopqrstuvwxyz"
MOST_LETTERS = 8
MOST_SIGNS = 6


def is_name(thing):
    """Tells of any object whether it is a name."""
    if not isinstance(thing, str) or not 1 <= len(thing) <= MOST_LETTERS:
        return False
    return all([letter in LETTERS for letter in thing])


def is_list(thing):
    """Tells of any object whether it is passed as a list: tuples may be, too."""
    return isinstance(thing, (list, tuple))


def name_of(literal):
    """The name of a literal."""
    if literal.startswith("-"):
        return literal[1:]
    return literal


def opposite(literal):
    """The other literal of the same name."""
    if literal.startswith("-"):
        return literal[1:]
    return "-" + literal


def check_names(things, taken=()):
    """Raises BadNames for the first thing that is no name, is taken or stood before."""
    seen = {}
    for name in taken:
        seen[name] = True
    for index, thing in enumerate(things):
        if not is_name(thing) or thing in seen:
            raise BadNames(index)
        seen[thing] = True


def check_count(names):
    """Raises TooMany if there are more names than can be looked at."""
    if len(names) > MOST_SIGNS:
        raise TooMany(len(names))


def joined_names(ones, others):
    """The ones, then the further ones of the others."""
    known = {name: True for name in ones}
    return [*ones, *[name for name in others if name not in known]]


def literals_of(names):
    """All literals of the names, ascending."""
    return [literal for name in names for literal in (name, "-" + name)]


def places_of(names):
    """A dict of all literals of the names, each with its place: 2 * k and 2 * k + 1 for the name at k."""
    return {literal: place for place, literal in enumerate(literals_of(names))}


def in_order(places, literals):
    """The literals as a tuple, ascending."""
    by_place = {places[literal]: literal for literal in literals}
    return tuple([by_place[place] for place in sorted([int(place) for place in by_place])])


def first_wrong(places, things):
    """The index of the first thing that is no literal, or whose name stood before; None if all fit."""
    seen = {}
    for index, thing in enumerate(things):
        # only strings are looked up: other objects may be no key of a dict
        if not isinstance(thing, str) or thing not in places or name_of(thing) in seen:
            return index
        seen[name_of(thing)] = True
    return None


def is_clause(places, thing):
    """Tells of any object whether it is a list of literals of unlike names."""
    return is_list(thing) and first_wrong(places, thing) is None


def is_full(places, thing):
    """Tells of any object whether it is a list with one literal for each name."""
    return is_clause(places, thing) and 2 * len(thing) == len(places)


def check_setting(places, setting):
    """Raises BadSetting for an object that is no half-filled setting."""
    if not is_list(setting):
        raise BadSetting(0)
    wrong = first_wrong(places, setting)
    if wrong is not None:
        raise BadSetting(wrong)


def full_settings(names):
    """All full settings of the names, in order, as tuples of ascending literals."""
    rows = [()]
    for name in names:
        rows = [(*row, literal) for row in rows for literal in (name, "-" + name)]
    return rows


def half_filled(names):
    """All half-filled settings of the names, as tuples of ascending literals; those that begin alike are together."""
    rows = [()]
    for name in names:
        rows = [(*row, *added) for row in rows for added in ((), (name,), ("-" + name,))]
    return rows


def half_filled_in_order(names):
    """All half-filled settings of the names, as tuples of ascending literals, in the order of lists."""
    literals = literals_of(names)
    places = places_of(names)
    rows = []
    parts = [()]
    while parts:
        rows.extend(parts)
        parts = [(*row, literal) for row in parts for literal in literals_behind(literals, places, row)]
    return rows


def literals_behind(literals, places, row):
    """The literals of the names behind those of an ascending row."""
    if not row:
        return literals
    return literals[(places[row[-1]] // 2 + 1) * 2:]
