"""Which locals are deaf during a task: no row of their own steps leads them to a quiet mark."""

from copybooks.rules import blank


class Deafness:
    """Tells deaf locals by the rules of a book, and keeps what it has found out."""

    def __init__(self, rules):
        self._rules = rules
        self._found = {}

    def is_deaf(self, local, task):
        """Whether a cache with this local, not the asker, is deaf during the task."""
        # Data play no part, and without them far fewer locals are to be told apart.
        bare = blank(local)
        if (task, bare) not in self._found:
            self._explore(bare, task)
        return self._found[task, bare]

    def _explore(self, start, task):
        """Finds out for the local and all those that it leads to, so that no local is explored twice."""
        rows = [start]
        sources = {start: []}
        hearing = []
        at = 0
        while at < len(rows):
            local = rows[at]
            at += 1
            if self._hears(local, task):
                hearing.append(local)
            elif (task, local) not in self._found:
                for goal in self._rules.lone_locals(local, task):
                    if goal not in sources:
                        sources[goal] = []
                        rows.append(goal)
                    sources[goal].append(local)
        for local in rows:
            self._found[task, local] = True
        self._spread(hearing, sources, task)

    def _hears(self, local, task):
        """Whether the local is quiet, or is known not to be deaf."""
        return self._rules.is_quiet(local, task) or self._found.get((task, local)) is False

    def _spread(self, hearing, sources, task):
        """Whatever leads to a local that is not deaf is not deaf either."""
        rows = list(hearing)
        while rows:
            local = rows.pop()
            if self._found[task, local]:
                self._found[task, local] = False
                rows.extend(sources[local])
