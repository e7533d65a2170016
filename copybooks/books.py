"""Books of rules: what caches and home do with one line."""

from copybooks.bookparts import PARTS, copied_tasks, wrong_part
from copybooks.errors import NoBook


class Book:
    """A book of rules; it does not change."""

    def __init__(self, states, ups, downs, marks, wishes, answers, tasks, idles, busies):
        fault = wrong_part((states, ups, downs, marks, wishes, answers, tasks, idles, busies))
        if fault is not None:
            raise NoBook(fault[0], fault[1])
        self._states = list(states)
        self._ups = list(ups)
        self._downs = list(downs)
        self._marks = list(marks)
        self._wishes = list(wishes)
        self._answers = list(answers)
        self._tasks = copied_tasks(tasks)
        self._idles = list(idles)
        self._busies = list(busies)
        self._parts = (
            self._states, self._ups, self._downs, self._marks, self._wishes,
            self._answers, self._tasks, self._idles, self._busies,
        )

    def states(self):
        """The states: tuples (name, traits)."""
        return list(self._states)

    def ups(self):
        """The kinds of letters to home: tuples (name, data)."""
        return list(self._ups)

    def downs(self):
        """The kinds of letters from home: tuples (name, data)."""
        return list(self._downs)

    def marks(self):
        """The marks, names."""
        return list(self._marks)

    def wishes(self):
        """The wishes: tuples (state, state, up)."""
        return list(self._wishes)

    def answers(self):
        """The answers: tuples (state, down, state, up)."""
        return list(self._answers)

    def tasks(self):
        """The tasks: tuples (name, calls, quiet, ends, mark, down, owner)."""
        return copied_tasks(self._tasks)

    def idles(self):
        """What home does without a task: tuples (mark, up, task) or (mark, up, mark, down, frees)."""
        return list(self._idles)

    def busies(self):
        """What home does during a task: tuples (task, mark, up, mark, down, frees)."""
        return list(self._busies)

    def __eq__(self, other):
        return isinstance(other, Book) and self._parts == other._parts


def parts_of(book):
    """A dict from the name of each part of the book to the list of its items."""
    return {
        "states": book.states(), "ups": book.ups(), "downs": book.downs(), "marks": book.marks(),
        "wishes": book.wishes(), "answers": book.answers(), "tasks": book.tasks(),
        "idles": book.idles(), "busies": book.busies(),
    }


def book_of(parts):
    """The book of a dict of its parts."""
    rows = [parts[part] for part in PARTS]
    return Book(*rows)
