"""All least harmful bags of a book, found backward from what is wrong."""

from copybooks.controls import with_one
from copybooks.errors import TooMany
from copybooks.fitting import MOST_WRONG, left_over
from copybooks.kept import Kept

# The asker, the owner, and as many others as it takes at most for something to be wrong.
MOST_BEGINNING = 4


class Harmful:
    """The least harmful bags, told by the numbers of Controls.

    A step changes no number of caches, and the moment behind it has no fewer caches than a bag that it
    contains. So no bag is found from one with more caches than it has itself: if bags are settled by their
    number of caches, each one that contains none that was settled before is a least one, once for all.
    """

    def __init__(self, controls, fitting, most):
        self._controls = controls
        self._fitting = fitting
        self._most = most
        self._rows = []
        self._kept = Kept()
        self._arrivals = fitting.arrivals()
        # Harmful bags that are still to be settled, by their number of caches, and all that ever were.
        self._waiting = {}
        self._met = {}
        many = 0
        while many <= MOST_BEGINNING or self._waiting:
            self._settle_all(many)
            many += 1

    def rows(self):
        """The list of the bags: (control, others)."""
        return list(self._rows)

    def holds(self, control, others):
        """Whether the moment contains a harmful bag."""
        return self._kept.holds(control, others)

    def _settle_all(self, many):
        """Settles the bags of so many caches, also those that are found meanwhile."""
        for control in self._fitting.controls():
            beside = many - self._controls.size(control)
            if 0 <= beside <= MOST_WRONG:
                for others in self._fitting.wrong_rows(control, beside):
                    self._settle(control, others)
        rows = self._waiting.get(many, [])
        while rows:
            control, others = rows.pop()
            self._settle(control, others)
        if many in self._waiting:
            del self._waiting[many]

    def _settle(self, control, others):
        """Keeps the harmful bag, if it is a least one, and awaits those that lead to it."""
        if self._kept.holds(control, others):
            return
        if len(self._rows) == self._most:
            raise TooMany(self._most)
        self._rows.append((control, others))
        self._kept.keep(control, others)
        for begin, acting, way, come in self._arrivals[control]:
            self._go_back(begin, acting, way, left_over(others, come))

    def _go_back(self, control, acting, way, needed):
        """Awaits the moments of those that act and of some that become the needed ones."""
        sources = self._fitting.sources(control, way)
        rows = {acting: True}
        for number in needed:
            more = [with_one(row, source) for row in rows for source in sources.get(number, [])]
            rows = {row: True for row in more if not self._kept.holds(control, row)}
        for row in rows:
            self._await(control, row)

    def _await(self, control, others):
        key = (control, others)
        if key not in self._met:
            self._met[key] = True
            many = self._controls.size(control) + len(others)
            self._waiting.setdefault(many, []).append(key)
