"""The errors of the package.

Each one keeps what it was given. The messages do not show it, as it may be any object.
"""


class OpenError(ValueError):
    """What all errors of this package are."""


class BadNames(OpenError):
    """A thing in a list of names is no name that may stand there."""

    def __init__(self, index):
        OpenError.__init__(self, "no name, or a name that may not stand here")
        self.index = index


class TooMany(OpenError):
    """More names than can be looked at."""

    def __init__(self, n):
        OpenError.__init__(self, "too many names")
        self.n = n


class BadSetting(OpenError):
    """A thing that does not fit into a setting, or that is no setting."""

    def __init__(self, index):
        OpenError.__init__(self, "not what a setting asks for")
        self.index = index


class NoSign(OpenError):
    """A thing that is no sign of the rule or code."""

    def __init__(self, name):
        OpenError.__init__(self, "no sign")
        self.name = name


class BadClause(OpenError):
    """A thing that is no clause of the names at hand."""

    def __init__(self, index):
        OpenError.__init__(self, "no clause of the names at hand")
        self.index = index


class NoClause(OpenError):
    """A thing that is no index of a clause."""

    def __init__(self, index):
        OpenError.__init__(self, "no index of a clause")
        self.index = index


class Clash(OpenError):
    """A helper of one code that is a name of another one."""

    def __init__(self, name):
        OpenError.__init__(self, "a helper is a name of another code")
        self.name = name


class BadCount(OpenError):
    """Another number of helpers than is asked for."""

    def __init__(self, n):
        OpenError.__init__(self, "another number of helpers is asked for")
        self.n = n


class BadLevel(OpenError):
    """A thing that is no level, or not one of those asked for."""

    def __init__(self, level):
        OpenError.__init__(self, "no level that may stand here")
        self.level = level


class Blind(OpenError):
    """A code that does not see, with what shows it."""

    def __init__(self, setting, literal):
        OpenError.__init__(self, "the code does not see")
        self.setting = setting
        self.literal = literal


class UnlikeSigns(OpenError):
    """Two codes that should have the same signs have not."""

    def __init__(self):
        OpenError.__init__(self, "the signs are unlike")


class NoHelper(OpenError):
    """A thing that is no helper of the code."""

    def __init__(self, name):
        OpenError.__init__(self, "no helper")
        self.name = name


class BadLiteral(OpenError):
    """A thing that is no literal of the names at hand."""

    def __init__(self, literal):
        OpenError.__init__(self, "no literal of the names at hand")
        self.literal = literal


class BadCode(OpenError):
    """A thing in a list of codes that is no code, or no such list."""

    def __init__(self, index):
        OpenError.__init__(self, "no code, or no list of codes")
        self.index = index


class NotTree(OpenError):
    """A code with two signs that hang together already."""

    def __init__(self, index):
        OpenError.__init__(self, "the codes are not joined like a tree")
        self.index = index


class Dead(OpenError):
    """There is a dead end."""

    def __init__(self):
        OpenError.__init__(self, "there is a dead end")


class IsSet(OpenError):
    """A name whose side was put or is drawn."""

    def __init__(self, name):
        OpenError.__init__(self, "the name has a side already")
        self.name = name


class NothingToUndo(OpenError):
    """There is no choice to take back."""

    def __init__(self):
        OpenError.__init__(self, "nothing to undo")


class NotDrawn(OpenError):
    """A thing that is no drawn literal."""

    def __init__(self, literal):
        OpenError.__init__(self, "no drawn literal")
        self.literal = literal


class NotDead(OpenError):
    """There is no dead end."""

    def __init__(self):
        OpenError.__init__(self, "there is no dead end")


class BadLine(OpenError):
    """A line that is not what the text asks for."""

    def __init__(self, index):
        OpenError.__init__(self, "a wrong line")
        self.index = index
