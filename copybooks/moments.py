"""Moments: all that a world of caches is at one time, and the steps that lead on from there."""

from copybooks.checks import check_many, is_step
from copybooks.errors import NoRun, NoStep
from copybooks.worlds import Worlds


class Moment:
    """A moment of a world of caches; it does not change. It is made by first, after and played."""

    def __init__(self, book, worlds, world):
        self._book = book
        self._worlds = worlds
        self._world = world
        self._home = worlds.home(world)
        self._caches = worlds.caches(world)

    def book(self):
        """The book."""
        return self._book

    def home(self):
        """The tuple (task, memory, owner, asker)."""
        return self._home

    def caches(self):
        """The list of the locals: tuples (state, copy, mark, ups, downs)."""
        return list(self._caches)

    def steps(self):
        """The list of all steps that can be taken and do not jam."""
        return [step for step, _ in self._worlds.free_moves(self._world)]

    def after(self, step):
        """The moment behind a step."""
        if not is_step(step):
            raise NoStep()
        for other, behind in self._worlds.free_moves(self._world):
            if other == step:
                return Moment(self._book, self._worlds, behind)
        raise NoStep()

    def wrongs(self):
        """The list of all that is wrong: tuples ("stale", i), ("jam", step), ("deaf", i)."""
        return self._worlds.wrongs(self._world)

    def __eq__(self, other):
        if not isinstance(other, Moment):
            return False
        return self._book == other._book and self._home == other._home and self._caches == other._caches


def first(book, n):
    """The first moment of a world of n caches."""
    check_many(n)
    worlds = Worlds(book)
    return Moment(book, worlds, worlds.first_world(n))


def played(moment, run):
    """The moment behind a list of steps."""
    if not isinstance(run, list):
        raise NoRun(-1)
    now = moment
    for index, step in enumerate(run):
        try:
            now = now.after(step)
        except NoStep:
            raise NoRun(index) from None
    return now
