"""Controls, that is, what views tell ahead of their others, and what the steps make of both."""

from copybooks.checks import KINDS
from copybooks.worlds import ASKS, FLAGS, OWNS, Worlds

SAME = ("same",)

AGED = ("aged",)

CALLED = "called"

ENDED = "ended"


def distinct(others):
    """Each of the others once; they are ascending."""
    return [number for at, number in enumerate(others) if number not in others[:at]]


def without(others, number):
    """The others without one of this number."""
    at = others.index(number)
    return others[:at] + others[at + 1:]


def with_one(others, number):
    """The others and one more."""
    return tuple(sorted(others + (number,)))


def way_of(task, step, behind):
    """What becomes of those caches that the step does not name."""
    if step[0] == "put":
        return AGED
    if step[0] == "end":
        return (ENDED, task)
    if behind is not None and behind[0] != task:
        return (CALLED, behind[0], behind[1])
    return SAME


class Controls:
    """The controls of a book and what the steps do to views, all told by numbers.

    A control is kept as the world of its asker and its owner alone, in this order, and gets its number
    when it is first met. Others are ascending tuples of the numbers that Worlds gives to locals.

    A DEED is what a step does, by whom ever it is made: (way, control, come). The way tells what becomes
    of each other cache but the one that acts; the control is the one behind the step, or None for a jam;
    come are the numbers of those that were of the control, or acted, and are others behind the step. So
    what becomes of one other hangs on no other one, and a step of few caches serves for any number.
    """

    def __init__(self, book):
        self._worlds = Worlds(book)
        self._known = []
        self._numbers = {}
        self._deeds = {}
        self._starts = {}
        self._changed = {}

    def parted(self, world):
        """The control of a world, and its others."""
        task, memory, cells = world
        kept = [cell for cell in cells if cell & ASKS] + [cell for cell in cells if cell % FLAGS == OWNS]
        others = sorted([cell // FLAGS for cell in cells if cell % FLAGS == 0])
        return (self._number((task, memory, tuple(kept))), tuple(others))

    def _number(self, world):
        if world not in self._numbers:
            self._numbers[world] = len(self._known)
            self._known.append(world)
        return self._numbers[world]

    def world(self, control, others):
        """The world of a control and others, as if there were no other caches."""
        task, memory, cells = self._known[control]
        return (task, memory, cells + tuple([FLAGS * number for number in others]))

    def size(self, control):
        """How many caches the control tells of: the asker and the owner."""
        return len(self._known[control][2])

    def first_view(self, many):
        """The control of the first moment of so many caches, and its others."""
        return self.parted(self._worlds.first_world(many))

    def read(self, view):
        """The control and the others of a view that is told by locals."""
        return self.parted(self._worlds.world_of(view))

    def read_moment(self, home, rows):
        """The control and the others of a moment that is told by its home and its locals."""
        return self.parted(self._worlds.world_at(home, rows))

    def told(self, control, others):
        """The view, told by locals."""
        return self._worlds.view_of(self.world(control, others))

    def wrong_kind(self, control, others):
        """A kind of what is wrong at the moment of the control and the others, or None."""
        return self._worlds.wrong_kind(self.world(control, others), KINDS)

    def deeds(self, control, actor):
        """The deeds of an other; those of the control's caches and the end, if the actor is None."""
        key = (control, actor)
        if key not in self._deeds:
            world = self._known[control]
            if actor is None:
                moves = self._worlds.moves(world)
            else:
                moves = self._worlds.cache_moves(self.world(control, (actor,)), len(world[2]))
            self._deeds[key] = [self._deed(world[0], step, behind) for step, behind in moves]
        return self._deeds[key]

    def _deed(self, task, step, behind):
        way = way_of(task, step, behind)
        if behind is None:
            return (way, None, ())
        control, come = self.parted(behind)
        return (way, control, come)

    def starts(self, control, actor):
        """Those deeds of an other that touch further caches: puts, and tasks that begin."""
        key = (control, actor)
        if key not in self._starts:
            self._starts[key] = [deed for deed in self.deeds(control, actor) if deed[0] != SAME]
        return self._starts[key]

    def changed(self, number, way):
        """The number of an other behind a deed of this way; None if it jams, or is not quiet at an end."""
        if way == SAME:
            return number
        key = (number, way)
        if key not in self._changed:
            self._changed[key] = self._changed_anew(number, way)
        return self._changed[key]

    def _changed_anew(self, number, way):
        if way == AGED:
            return self._worlds.number_aged(number)
        if way[0] == ENDED:
            return self._worlds.number_ended(number, way[1])
        return self._worlds.number_called(number, way[1], way[2])

    def behind(self, deed, others):
        """The control and the others behind a deed beside these others; None if it jams or cannot be taken."""
        way, control, come = deed
        found = [self.changed(number, way) for number in others]
        if control is None or None in found:
            return None
        return (control, tuple(sorted(found + list(come))))
