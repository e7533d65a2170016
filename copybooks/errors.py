"""The errors of the package: all stand directly under CopyError."""


class CopyError(ValueError):
    """Any error of the package."""


class NoMany(CopyError):
    """A number of caches that is none."""


class NoStep(CopyError):
    """No step, or one that cannot be taken."""


class NoKinds(CopyError):
    """No tuple of kinds of what is wrong."""


class NoMost(CopyError):
    """A bound that is none."""


class NoViews(CopyError):
    """A number of others in views that is none."""


class Undecided(CopyError):
    """Nothing was decided within the bounds."""


class NoCache(CopyError):
    """No index of a cache."""


class NoPick(CopyError):
    """No pick of a family."""


class NoLines(CopyError):
    """A number of lines that is none."""


class NoLine(CopyError):
    """No index of a line."""


class NoValue(CopyError):
    """No value that could be put."""


class NoBack(CopyError):
    """Nothing is left to take back."""


class NoIndex(CopyError):
    """No index of a step."""


class NoRest(CopyError):
    """A cache that cannot come to rest."""


class NoPair(CopyError):
    """No pair of states."""


class NotRight(CopyError):
    """A book that is not right, or not fit."""


class NoBag(CopyError):
    """No bag of a book."""


class NoBook(CopyError):
    """A part of a book that is not as told, and its first wrong item."""

    def __init__(self, part, index):
        self.part = part
        self.index = index


class NoRun(CopyError):
    """No run, by the index of its first wrong item."""

    def __init__(self, index):
        self.index = index


class NoFamily(CopyError):
    """No choices of a family, by the index of the first wrong one."""

    def __init__(self, index):
        self.index = index


class NoText(CopyError):
    """No text, by the index of its first wrong line."""

    def __init__(self, line):
        self.line = line


class TooMany(CopyError):
    """More than the bound allows."""

    def __init__(self, most):
        self.most = most
