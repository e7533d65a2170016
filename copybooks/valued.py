"""Real values that a world bears in the places where a moment tells data."""

from copybooks.moments import first


def valued_road(road, values, sent):
    """A dict of the values on a road; letters that were not under way before bear the value that is sent."""
    return {kind: values.get(kind, sent) for kind, data in road if data is not None}


class Valued:
    """A moment with the values of its memory, its copies and its letters; it does not change.

    A row of values belongs to each cache: the value of its copy, or None, and dicts from the kinds of the
    letters that bear data, from it and to it, to their values, or None.
    """

    def __init__(self, moment, memory, rows):
        self._moment = moment
        self._memory = memory
        self._rows = rows

    def moment(self):
        """The moment."""
        return self._moment

    def copy_of(self, i):
        """The value of the copy of cache i, or None."""
        return self._rows[i][0]

    def after(self, step):
        """What is behind a step that is no put."""
        behind = self._moment.after(step)
        copies = [row[0] for row in self._rows]
        memory = self._memory
        if step[0] == "answer":
            copies[step[1]] = self._rows[step[1]][2].get(step[2], copies[step[1]])
        if step[0] == "take" and self._moment.home()[2] == step[1]:
            memory = self._rows[step[1]][1].get(step[2], memory)
        # On each road a step takes letters or sends them, never both, so what is new on it was sent by the step.
        rows = []
        for local, (_, ups, downs), value in zip(behind.caches(), self._rows, copies):
            kept = None if local[1] == "none" else value
            rows.append((kept, valued_road(local[3], ups, value), valued_road(local[4], downs, memory)))
        return Valued(behind, memory, rows)

    def after_put(self, i, value):
        """What is behind a put of the value."""
        rows = list(self._rows)
        rows[i] = (value, rows[i][1], rows[i][2])
        return Valued(self._moment.after(("put", i)), self._memory, rows)


def first_valued(book, n):
    """The first moment of n caches, with the value 0 in the memory."""
    return Valued(first(book, n), 0, [(None, {}, {}) for _ in range(n)])
