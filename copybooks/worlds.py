"""Worlds: the steps of a book over all its caches at once."""

from copybooks.deafness import Deafness
from copybooks.rules import Rules, aged, blank

ASKS = 1

OWNS = 2

FLAGS = 4


def class_of(world):
    """The same tuple for all worlds that a renaming of the caches carries into one another."""
    task, memory, cells = world
    return (task, memory, tuple(sorted(cells)))


def replaced(cells, i, cell):
    """The cells with another one for cache i."""
    return cells[:i] + (cell,) + cells[i + 1:]


def with_flag(cells, flag):
    """The index of the first cell that has the flag, or None."""
    for i, cell in enumerate(cells):
        if cell & flag:
            return i
    return None


class Worlds:
    """The worlds of a book: tuples (task, memory, cells), with one cell for each cache.

    A cell is FLAGS * number of its local, + OWNS if the cache is the owner, + ASKS if it is the asker.
    A local gets its number when it is first met. What a rule makes of a numbered local is kept, since
    the same few locals are met again and again; None stands for what would jam.
    """

    def __init__(self, book):
        self._rules = Rules(book)
        self._deafness = Deafness(self._rules)
        self._known = []
        self._numbers = {}
        self._kept = {}

    def first_world(self, n):
        """The first world of n caches."""
        return (None, "last", (FLAGS * self.number(self._rules.first_local()),) * n)

    def home(self, world):
        """The tuple (task, memory, owner, asker)."""
        task, memory, cells = world
        return (task, memory, with_flag(cells, OWNS), with_flag(cells, ASKS))

    def caches(self, world):
        """The list of the locals."""
        return [self._local(cell) for cell in world[2]]

    def world_of(self, view):
        """The world that has just the caches of a view: its asker, its owner, its others."""
        (task, memory, owner, asker), others = view
        cells = []
        if asker is not None:
            cells.append(FLAGS * self.number(asker) + ASKS + (OWNS if owner == "asker" else 0))
        if owner is not None and owner != "asker":
            cells.append(FLAGS * self.number(owner) + OWNS)
        cells.extend([FLAGS * self.number(local) for local in others])
        return (task, memory, tuple(cells))

    def world_at(self, home, rows):
        """The world whose home and locals a moment tells."""
        task, memory, owner, asker = home
        cells = [
            FLAGS * self.number(local) + (OWNS if i == owner else 0) + (ASKS if i == asker else 0)
            for i, local in enumerate(rows)
        ]
        return (task, memory, tuple(cells))

    def view_of(self, world):
        """The view that has all caches of the world."""
        task, memory, owner, asker = self.home(world)
        locals_here = self.caches(world)
        others = [local for i, local in enumerate(locals_here) if i not in (owner, asker)]
        if owner is not None:
            owner = "asker" if owner == asker else locals_here[owner]
        if asker is not None:
            asker = locals_here[asker]
        return ((task, memory, owner, asker), tuple(sorted(others)))

    def _local(self, cell):
        return self._known[cell // FLAGS]

    def number(self, local):
        """The number of the local; None for what came of a jam."""
        if local is None:
            return None
        if local not in self._numbers:
            self._numbers[local] = len(self._known)
            self._known.append(local)
        return self._numbers[local]

    def moves(self, world):
        """The list of (step, world behind it) for each step that can be taken, in the order of steps()."""
        found = []
        for i in range(len(world[2])):
            found.extend(self.cache_moves(world, i))
        return found + self._end_moves(world)

    def free_moves(self, world):
        """Like moves, but without jams."""
        return [move for move in self.moves(world) if move[1] is not None]

    def class_moves(self, world):
        """Like moves, but without jams, and of several caches with equal cells only by the first one."""
        cells = world[2]
        found = []
        for i, cell in enumerate(cells):
            if cell not in cells[:i]:
                found.extend(self.cache_moves(world, i))
        return [move for move in found + self._end_moves(world) if move[1] is not None]

    def calm_moves(self, world):
        """Like moves, but without jams, wishes and puts."""
        found = []
        for i in range(len(world[2])):
            found.extend([move for move in self._letter_moves(world, i) if move[0][0] != "wish"])
        return [move for move in found + self._end_moves(world) if move[1] is not None]

    def cache_moves(self, world, i):
        """Like moves, but the steps of cache i alone."""
        found = self._letter_moves(world, i)
        if self._has_trait(world[2][i] // FLAGS, "p"):
            found.append((("put", i), self._put(world, i)))
        return found

    def _letter_moves(self, world, i):
        """Like moves, but the wishes, answers and takes of cache i alone."""
        task, memory, cells = world
        number, flags = cells[i] // FLAGS, cells[i] % FLAGS
        found = []
        for word, at, goal in self._own_moves(number):
            behind = None if goal is None else (task, memory, replaced(cells, i, FLAGS * goal + flags))
            found.append(((word, i, at), behind))
        if not flags & ASKS:
            for up, begun, goal, given, owns in self._takes(number, task, flags, memory):
                step = ("take", i, up)
                if goal is None:
                    found.append((step, None))
                elif begun is None:
                    found.append((step, (task, given, replaced(cells, i, FLAGS * goal + owns))))
                else:
                    found.append((step, self._begun(begun, given, cells, i, FLAGS * goal + owns + ASKS)))
        return found

    def _own_moves(self, number):
        """The wishes and answers of a cache: (word, index or kind, number behind it)."""
        key = ("own", number)
        if key not in self._kept:
            local = self._known[number]
            rows = self._rules.wish_moves(local) + self._rules.answer_moves(local)
            self._kept[key] = [(word, at, self.number(goal)) for word, at, goal in rows]
        return self._kept[key]

    def _takes(self, number, task, flags, memory):
        """What home can take of a cache: (kind, task that begins, number, memory, OWNS or 0)."""
        key = ("take", number, task, flags, memory)
        if key not in self._kept:
            rows = self._rules.take_moves(self._known[number], task, flags & OWNS > 0, memory)
            self._kept[key] = [
                (up, begun, self.number(goal), given, OWNS if owns else 0)
                for up, begun, goal, given, owns in rows
            ]
        return self._kept[key]

    def _begun(self, task, memory, cells, i, asker):
        """The world in which the task has begun, asked for by cache i, whose cell is given."""
        found = []
        for at, cell in enumerate(cells):
            if at == i:
                found.append(asker)
                continue
            goal = self.number_called(cell // FLAGS, task, memory)
            if goal is None:
                return None
            found.append(FLAGS * goal + cell % FLAGS)
        return (task, memory, tuple(found))

    def number_called(self, number, task, memory):
        """What becomes of another cache when the task begins; None for a jam."""
        key = ("call", number, task, memory)
        if key not in self._kept:
            self._kept[key] = self.number(self._rules.called(self._known[number], task, memory))
        return self._kept[key]

    def _put(self, world, i):
        """The world behind a put of cache i."""
        task, memory, cells = world
        older = [FLAGS * self.number_aged(cell // FLAGS) + cell % FLAGS for cell in cells]
        state, _, mark, ups, downs = self._local(older[i])
        older[i] = FLAGS * self.number((state, "last", mark, ups, downs)) + older[i] % FLAGS
        return (task, "elder" if memory == "last" else memory, tuple(older))

    def number_aged(self, number):
        """What becomes of another cache when a cache puts."""
        key = ("aged", number)
        if key not in self._kept:
            self._kept[key] = self.number(aged(self._known[number]))
        return self._kept[key]

    def _end_moves(self, world):
        """The list with the end of the task, if it can be taken, else the empty one."""
        task, memory, cells = world
        if task is None:
            return []
        found = []
        for cell in cells:
            goal = self._ended(cell, task, memory)
            if goal == "loud":
                return []
            found.append(goal)
        if None in found:
            return [(("end",), None)]
        return [(("end",), (None, memory, tuple(found)))]

    def _ended(self, cell, task, memory):
        """The cell behind the end of the task, None for a jam, "loud" for a mark that is not quiet."""
        key = ("end", cell, task, memory)
        if key not in self._kept:
            self._kept[key] = self._ended_anew(cell, task, memory)
        return self._kept[key]

    def number_ended(self, number, task):
        """What becomes of another cache, neither owner nor asker, when the task ends; None if it is not quiet."""
        # Home gives its memory to the asker alone.
        goal = self._ended(FLAGS * number, task, "none")
        return None if goal == "loud" else goal // FLAGS

    def _ended_anew(self, cell, task, memory):
        local = self._local(cell)
        word = self._rules.owner_behind(task)
        owns = cell & OWNS if word == "stays" else 0
        if cell & ASKS:
            goal = self.number(self._rules.served(local, task, memory))
            owns = OWNS if word == "asker" else owns
            return None if goal is None else FLAGS * goal + owns
        if not self._rules.is_quiet(local, task):
            return "loud"
        return FLAGS * self.number(self._rules.ended(local, task)) + owns

    def _has_trait(self, number, trait):
        key = ("trait", number, trait)
        if key not in self._kept:
            self._kept[key] = self._rules.has_trait(self._known[number], trait)
        return self._kept[key]

    def waits(self, cell):
        """Whether the state of the cache waits."""
        return self._has_trait(cell // FLAGS, "w")

    def bare_cell(self, cell):
        """The cell without any put, and without a flag for the owner."""
        key = ("bare", cell)
        if key not in self._kept:
            self._kept[key] = FLAGS * self.number(blank(self._local(cell))) + (cell & ASKS)
        return self._kept[key]

    def lone_cells(self, cell, task):
        """The bare cells to which an answer, or a take that begins no task, leads from one, but for jams."""
        number, flags = cell // FLAGS, cell % FLAGS
        goals = [goal for word, _, goal in self._own_moves(number) if word == "answer"]
        if not flags & ASKS:
            goals.extend([row[2] for row in self._takes(number, task, flags, "none") if row[1] is None])
        return [FLAGS * goal + flags for goal in goals if goal is not None]

    def begun_cells(self, cell):
        """The tasks that begin by a take from a cache with a bare cell: (task, bare cell of the asker)."""
        rows = self._takes(cell // FLAGS, None, cell % FLAGS, "none")
        return [(begun, FLAGS * goal + ASKS) for _, begun, goal, _, _ in rows if begun is not None]

    def bare_called(self, cell, task):
        """The bare cell of another cache behind the beginning of the task; None for a jam."""
        goal = self.number_called(cell // FLAGS, task, "none")
        return None if goal is None else FLAGS * goal

    def bare_ended(self, cell, task):
        """The bare cell behind the end of the task; None for a jam, or if the mark is not quiet."""
        goal = self._ended(cell, task, "none")
        return None if goal in (None, "loud") else self.bare_cell(goal)

    def is_stale(self, cell):
        """Whether the cache may read what is not the last put."""
        return self._rules.has_trait(self._local(cell), "r") and self._local(cell)[1] != "last"

    def is_deaf(self, cell, task):
        """Whether the cache is deaf, with this task or None."""
        return task is not None and not cell & ASKS and self._deafness.is_deaf(self._local(cell), task)

    def wrongs(self, world):
        """The list of all that is wrong at the world."""
        task, _, cells = world
        stale = [("stale", i) for i, cell in enumerate(cells) if self.is_stale(cell)]
        jams = [("jam", step) for step, behind in self.moves(world) if behind is None]
        deaf = [("deaf", i) for i, cell in enumerate(cells) if self.is_deaf(cell, task)]
        return stale + jams + deaf

    def wrong_kind(self, world, kinds):
        """One of these kinds that is wrong at the world, or None; quicker than all that is wrong."""
        task, _, cells = world
        for cell in cells:
            for kind in self._cell_wrongs(cell, task):
                if kind in kinds:
                    return kind
        if "jam" in kinds and (self._call_jams(world) or self._end_jams(world)):
            return "jam"
        return None

    def _cell_wrongs(self, cell, task):
        """The kinds of what is wrong at the cache, whatever the others are."""
        key = ("wrong", cell, task)
        if key not in self._kept:
            number, flags = cell // FLAGS, cell % FLAGS
            goals = [goal for _, _, goal in self._own_moves(number)]
            if not flags & ASKS:
                goals.extend([row[2] for row in self._takes(number, task, flags, "none")])
            found = []
            if self.is_stale(cell):
                found.append("stale")
            if None in goals:
                found.append("jam")
            if self.is_deaf(cell, task):
                found.append("deaf")
            self._kept[key] = found
        return self._kept[key]

    def _call_jams(self, world):
        """Whether a task that could begin would jam."""
        task, memory, cells = world
        if task is not None:
            return False
        for i, cell in enumerate(cells):
            for row in self._takes(cell // FLAGS, None, cell % FLAGS, memory):
                if row[1] is not None and self._begun(row[1], memory, cells, i, cell) is None:
                    return True
        return False

    def _end_jams(self, world):
        """Whether the end of the task could be taken, but would jam."""
        return None in [behind for _, behind in self._end_moves(world)]
