"""Which caches that wait can come to rest although nobody wishes anything any more."""


def image_of(cells):
    """The ascending tuple of the cells, each once, without None."""
    return tuple(sorted(set([cell for cell in cells if cell is not None])))


class Calm:
    """Tells caches that cannot come to rest, in the worlds of a book, and keeps what it has found out.

    While no task begins or ends, what the steps make of a cache hangs on no other cache. So each cache can
    come to any cell of its RANGE, whatever cells of theirs the others have, and worlds are gone through by
    ranges: tuples (task, range of the cache that is asked for, ranges of the others), from one beginning or
    end of a task to the next one. Data, who is the owner, and the order of the others play no part in this.
    """

    def __init__(self, worlds):
        self._worlds = worlds
        self._ranges = {}
        self._found = {}

    def restless_one(self, world):
        """The index of the first cache that waits and cannot come to rest; None if there is none."""
        cells = world[2]
        for i, cell in enumerate(cells):
            # Of caches with equal cells the first one tells for all.
            if self._worlds.waits(cell) and cell not in cells[:i] and not self._can_rest(world, i):
                return i
        return None

    def _can_rest(self, world, i):
        """Whether cache i can come to rest."""
        task, _, cells = world
        rows = [(self._worlds.bare_cell(cell),) for cell in cells]
        start = self._wide(task, rows[i], rows[:i] + rows[i + 1:])
        if start not in self._found:
            self._explore(start)
        return self._found[start]

    def _wide(self, task, cells, others):
        """The ranges of caches of which each has one of its cells."""
        rows = sorted([self._range(row, task) for row in others])
        return (task, self._range(cells, task), tuple(rows))

    def _range(self, cells, task):
        """All cells to which a cache with one of these cells can come before a task begins or ends."""
        key = (cells, task)
        if key not in self._ranges:
            self._ranges[key] = self._range_anew(cells, task)
        return self._ranges[key]

    def _range_anew(self, cells, task):
        rows = list(cells)
        met = {cell: True for cell in cells}
        while rows:
            cell = rows.pop()
            for goal in self._worlds.lone_cells(cell, task):
                if goal not in met:
                    met[goal] = True
                    rows.append(goal)
        return tuple(sorted(met))

    def _explore(self, start):
        """Finds out whether the cache that is asked for can come to rest, from here and from what this leads to."""
        rows = [start]
        sources = {start: []}
        resting = []
        at = 0
        while at < len(rows):
            ranges = rows[at]
            at += 1
            if self._found.get(ranges) or not all([self._worlds.waits(cell) for cell in ranges[1]]):
                resting.append(ranges)
            elif ranges not in self._found:
                for goal in self._behind(ranges):
                    if goal not in sources:
                        sources[goal] = []
                        rows.append(goal)
                    sources[goal].append(ranges)
        for ranges in rows:
            self._found[ranges] = False
        while resting:
            ranges = resting.pop()
            if not self._found[ranges]:
                self._found[ranges] = True
                resting.extend(sources[ranges])

    def _behind(self, ranges):
        """The ranges behind each beginning or end of a task that does not jam."""
        task, own, others = ranges
        rows = [own] + list(others)
        if task is None:
            led = [self._begun(rows, at, name, asking)
                   for at, row in enumerate(rows) for name, asking in self._asking(row).items()]
        else:
            led = [(None, [image_of([self._worlds.bare_ended(cell, task) for cell in row]) for row in rows])]
        return [self._wide(name, goals[0], goals[1:]) for name, goals in led if () not in goals]

    def _asking(self, row):
        """A dict from each task that a cache of the range may ask for to the cells that it may have then."""
        found = {}
        for cell in row:
            for task, goal in self._worlds.begun_cells(cell):
                found.setdefault(task, []).append(goal)
        return found

    def _begun(self, rows, at, task, asking):
        """The task, and what each cache may have when it has begun; the one at this place asks for it."""
        goals = [image_of([self._worlds.bare_called(cell, task) for cell in row]) for row in rows]
        goals[at] = image_of(asking)
        return (task, goals)
