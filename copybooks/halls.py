"""Halls: many lines led side by side with real values, and the judge of their logs."""

from copybooks.checks import check_many, is_integer, is_step, is_whole
from copybooks.errors import NoBack, NoLine, NoLines, NoStep, NoValue
from copybooks.valued import first_valued

MOST_LINES = 4


class Hall:
    """Worlds with values, one for each of some lines, all by the same book."""

    def __init__(self, book, n, lines):
        check_many(n)
        if not is_integer(lines, 1, MOST_LINES):
            raise NoLines()
        self._traits = {name: traits for name, traits in book.states()}
        self._lines = [first_valued(book, n)] * lines
        self._log = []
        # What was done, to be taken back: the line, how it was before, and the length of the log before.
        self._done = []

    def _check_line(self, line):
        if not is_integer(line, 0, len(self._lines) - 1):
            raise NoLine()

    def _check_trait(self, line, i, trait):
        """Raises NoStep unless i is the index of a cache in a state with the trait."""
        caches = self._lines[line].moment().caches()
        if not is_integer(i, 0, len(caches) - 1) or trait not in self._traits[caches[i][0]]:
            raise NoStep()

    def _do(self, line, behind):
        """Leads the line on, so that it can be taken back."""
        self._done.append((line, self._lines[line], len(self._log)))
        self._lines[line] = behind

    def step(self, line, step):
        """Takes a step that is no put on a line."""
        self._check_line(line)
        if is_step(step) and step[0] == "put":
            raise NoStep()
        self._do(line, self._lines[line].after(step))

    def put(self, line, i, value):
        """Cache i puts the value on a line."""
        self._check_line(line)
        self._check_trait(line, i, "p")
        if not is_whole(value):
            raise NoValue()
        self._do(line, self._lines[line].after_put(i, value))
        self._log.append(("put", line, i, value))

    def read(self, line, i):
        """The value that cache i reads on a line, or None if its copy has none."""
        self._check_line(line)
        self._check_trait(line, i, "r")
        value = self._lines[line].copy_of(i)
        self._do(line, self._lines[line])
        self._log.append(("read", line, i, value))
        return value

    def moment(self, line):
        """The moment of a line, as its steps and puts lead to it."""
        self._check_line(line)
        return self._lines[line].moment()

    def log(self):
        """The list of all puts and reads of all lines, in their order."""
        return list(self._log)

    def back(self):
        """Takes the last step, put or read back."""
        if not self._done:
            raise NoBack()
        line, before, many = self._done.pop()
        self._lines[line] = before
        del self._log[many:]

    def __len__(self):
        return len(self._done)


def is_entry(row):
    """Whether the row is one of a log: a put or a read."""
    if not isinstance(row, tuple) or len(row) != 4 or row[0] not in ("put", "read"):
        return False
    word, line, i, value = row
    if not is_whole(line) or not is_whole(i) or line < 0 or i < 0:
        return False
    return is_whole(value) or (word == "read" and value is None)


def log_fault(thing):
    """The first fault of a log, or None: a read that does not tell the last put of its line."""
    if not isinstance(thing, list) or not all([is_entry(row) for row in thing]):
        return ("form",)
    last = {}
    for index, (word, line, _, value) in enumerate(thing):
        if word == "put":
            last[line] = value
        elif value != last.get(line, 0):
            return ("read", index)
    return None
