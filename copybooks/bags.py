"""Lists of bags, among the moments that fit: what they lack of being a base."""

from copybooks.controls import with_one
from copybooks.fitting import MOST_WRONG, left_over
from copybooks.kept import Kept


def all_parts(others):
    """All parts of the others, each once."""
    rows = {(): True}
    for number in others:
        for row in list(rows):
            rows[row + (number,)] = True
    return list(rows)


class Bags:
    """A list of bags, told by the numbers of Controls, that should be all the least harmful ones."""

    def __init__(self, fitting, rows):
        self._fitting = fitting
        self._rows = rows
        self._kept = Kept()
        self._many = {}
        for control, others in rows:
            self._kept.keep(control, others)
            self._many[control, others] = self._many.get((control, others), 0) + 1

    def fits(self, index):
        """Whether the bag fits."""
        control, others = self._rows[index]
        return self._fitting.fits(control, others)

    def is_least(self, index):
        """Whether no other bag has the same control and a part of its others, or the same others."""
        control, others = self._rows[index]
        return sum([self._many.get((control, part), 0) for part in all_parts(others)]) == 1

    def lacks_wrong(self):
        """Whether a moment that fits, at which something is wrong, contains no bag."""
        for control in self._fitting.controls():
            for many in range(MOST_WRONG + 1):
                rows = self._fitting.wrong_rows(control, many)
                if not all([self._kept.holds(control, others) for others in rows]):
                    return True
        return False

    def open_index(self):
        """The first bag to which a step leads from a moment that fits and contains no bag; or None."""
        arrivals = self._fitting.arrivals()
        for index, (goal, others) in enumerate(self._rows):
            for control, acting, way, come in arrivals[goal]:
                if self._is_free(control, acting, way, left_over(others, come)):
                    return index
        return None

    def _is_free(self, control, acting, way, needed):
        """Whether a moment that fits contains no bag: of the one that acts and some that become the needed ones."""
        # Only the fewest others that lead to the bag are tried: with more of them, no fewer bags are contained.
        sources = self._fitting.sources(control, way)
        rows = [acting]
        met = {}
        while rows:
            row = rows.pop()
            if row in met or self._kept.holds(control, row):
                continue
            met[row] = True
            many = len(row) - len(acting)
            if many == len(needed):
                return True
            rows.extend([with_one(row, number) for number in sources.get(needed[many], [])])
        return False
