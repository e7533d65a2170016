"""What the rules of a book do to one local, that is, to all that belongs to one cache."""

ELDER = {"last": "elder"}


def with_letter(road, kind, data, order):
    """The road with one letter more, in the order of the kinds; None if one of its kind is on it."""
    letters = dict(road)
    if kind in letters:
        return None
    letters[kind] = data
    return tuple([(name, letters[name]) for name in order if name in letters])


def without_letter(road, kind):
    """The road without its letter of this kind."""
    return tuple([(name, data) for name, data in road if name != kind])


def with_mark(local, mark):
    """The local with another mark."""
    state, copy, _, ups, downs = local
    return (state, copy, mark, ups, downs)


def aged_road(road):
    """The road behind a put."""
    return tuple([(kind, ELDER.get(data, data)) for kind, data in road])


def aged(local):
    """The local behind a put of another cache."""
    state, copy, mark, ups, downs = local
    return (state, ELDER.get(copy, copy), mark, aged_road(ups), aged_road(downs))


def blank_road(road):
    """The road with letters that bear nothing."""
    return tuple([(kind, None if data is None else "none") for kind, data in road])


def blank(local):
    """The local without any put."""
    state, _, mark, ups, downs = local
    return (state, "none", mark, blank_road(ups), blank_road(downs))


class Rules:
    """The rules of a book, found by what they are for. A local that would come of a jam is None."""

    def __init__(self, book):
        self._traits = {name: traits for name, traits in book.states()}
        self._up_bears = {kind: data for kind, data in book.ups()}
        self._down_bears = {kind: data for kind, data in book.downs()}
        self._first = (book.states()[0][0], "none", book.marks()[0], (), ())
        self._wish_rows = book.wishes()
        self._answer_rows = {(row[0], row[1]): (row[2], row[3]) for row in book.answers()}
        self._take_rows = {(None, row[0], row[1]): row[2:] for row in book.idles()}
        for row in book.busies():
            self._take_rows[row[:3]] = row[3:]
        self._calls = {}
        self._ends = {}
        self._services = {}
        for name, calls, quiet, ends, mark, down, owner in book.tasks():
            for old, call, end in zip(book.marks(), calls, ends):
                self._calls[name, old] = call
                if old in quiet:
                    self._ends[name, old] = end
            self._services[name] = (mark, down, owner)

    def first_local(self):
        """The first local of each cache."""
        return self._first

    def has_trait(self, local, trait):
        """Whether the state of the local has the trait."""
        return trait in self._traits[local[0]]

    def wish_moves(self, local):
        """The list of ("wish", index, local behind it)."""
        return [
            ("wish", index, self._left(local, goal, up))
            for index, (begin, goal, up) in enumerate(self._wish_rows)
            if begin == local[0]
        ]

    def answer_moves(self, local):
        """The list of ("answer", kind, local behind it)."""
        state, copy, mark, ups, downs = local
        found = []
        for down, data in downs:
            if (state, down) in self._answer_rows:
                goal, up = self._answer_rows[state, down]
                held = copy if data is None else data
                answering = (state, held, mark, ups, without_letter(downs, down))
                found.append(("answer", down, self._left(answering, goal, up)))
        return found

    def _left(self, local, goal, up):
        """The local whose cache sends the letter, if any, and goes to the state."""
        state, copy, mark, ups, downs = local
        if up is not None:
            ups = with_letter(ups, up, copy if self._up_bears[up] else None, self._up_bears)
        if ups is None:
            return None
        return (goal, copy if "h" in self._traits[goal] else "none", mark, ups, downs)

    def take_moves(self, local, task, owns, memory):
        """The list of (kind, task that begins or None, local, memory and whether it owns, behind it).

        The local is that of a cache that is not the asker; calls of others are left to the caller.
        """
        state, copy, mark, ups, downs = local
        found = []
        for up, data in ups:
            if (task, mark, up) not in self._take_rows:
                continue
            row = self._take_rows[task, mark, up]
            rest = (state, copy, mark, without_letter(ups, up), downs)
            given = data if owns and data is not None else memory
            if len(row) == 1:
                found.append((up, row[0], rest, given, owns))
            else:
                goal, down, frees = row
                found.append((up, None, self._told(rest, goal, down, given), given, owns and not frees))
        return found

    def _told(self, local, goal, down, memory):
        """The local to which home gives the mark and the letter, if any."""
        state, copy, _, ups, downs = local
        if down is not None:
            downs = with_letter(downs, down, memory if self._down_bears[down] else None, self._down_bears)
        return None if downs is None else (state, copy, goal, ups, downs)

    def called(self, local, task, memory):
        """The local of another cache behind the beginning of the task."""
        goal, down = self._calls[task, local[2]]
        return self._told(local, goal, down, memory)

    def is_quiet(self, local, task):
        """Whether the mark of the local is quiet."""
        return (task, local[2]) in self._ends

    def ended(self, local, task):
        """The local of another cache, with a quiet mark, behind the end of the task."""
        return with_mark(local, self._ends[task, local[2]])

    def served(self, local, task, memory):
        """The asker's local behind the end of the task."""
        goal, down, _ = self._services[task]
        return self._told(local, goal, down, memory)

    def owner_behind(self, task):
        """What becomes of the owner when the task ends: "asker", "none" or "stays"."""
        return self._services[task][2]

    def lone_locals(self, local, task):
        """The locals to which one answer or take of this cache alone leads during the task."""
        found = [row[2] for row in self.answer_moves(local)]
        found.extend([row[2] for row in self.take_moves(local, task, False, "none")])
        return [row for row in found if row is not None]
