"""Lists of bags, among the moments that fit: what they lack of being a base."""

from copybooks.controls import CALLED, with_one, without


def all_parts(others):
    """All parts of the others, each once."""
    rows = {(): True}
    for number in others:
        for row in list(rows):
            rows[row + (number,)] = True
    return list(rows)


def left_over(others, come):
    """The others without those that come, each as often as it comes."""
    for number in come:
        if number in others:
            others = without(others, number)
    return others


class Bags:
    """A list of bags, told by the numbers of Controls, that should be all the least harmful ones.

    The singles are those of the least closed list of views of 1: a dict from each control to those that
    may stand beside it. A moment is one that fits if its control and its others are among them.
    """

    def __init__(self, controls, singles, rows):
        self._controls = controls
        self._singles = singles
        self._rows = rows
        self._table = {}
        for control, others in rows:
            self._table.setdefault(control, {}).setdefault(others, 0)
            self._table[control][others] += 1
        self._sources = {}

    def fits(self, index):
        """Whether the bag fits."""
        control, others = self._rows[index]
        return control in self._singles and all([number in self._singles[control] for number in others])

    def is_least(self, index):
        """Whether no other bag has the same control and a part of its others, or the same others."""
        control, others = self._rows[index]
        table = self._table[control]
        return sum([table.get(part, 0) for part in all_parts(others)]) == 1

    def holds(self, control, others):
        """Whether the moment contains a bag."""
        if control not in self._table:
            return False
        table = self._table[control]
        return any([part in table for part in all_parts(others)])

    def lacks_wrong(self):
        """Whether a moment that fits, at which something is wrong, contains no bag."""
        # What is wrong at a moment is wrong already at that of its control and two of its others at most.
        for control, singles in self._singles.items():
            rows = [()] + [(number,) for number in singles] + self._jamming_pairs(control)
            for others in rows:
                if self._controls.wrong_kind(control, others) is not None and not self.holds(control, others):
                    return True
        return False

    def _jamming_pairs(self, control):
        """The pairs of others of which one begins a task whose letter to the other one jams."""
        found = []
        for actor in self._singles[control]:
            for way, _, _ in self._controls.starts(control, actor):
                if way[0] == CALLED:
                    found.extend([with_one((actor,), number) for number in self._changing(control, way).get(None, [])])
        return found

    def _changing(self, control, way):
        """A dict from what may become of the control's singles, None among it, to the lists of those."""
        key = (control, way)
        if key not in self._sources:
            found = {}
            for number in self._singles[control]:
                found.setdefault(self._controls.changed(number, way), []).append(number)
            self._sources[key] = found
        return self._sources[key]

    def open_index(self):
        """The first bag to which a step leads from a moment that fits and contains no bag; or None."""
        arrivals = self._arrivals()
        for index, (goal, others) in enumerate(self._rows):
            for control, actor, way, come in arrivals[goal]:
                acting = () if actor is None else (actor,)
                if self._is_free(control, acting, way, left_over(others, come)):
                    return index
        return None

    def _arrivals(self):
        """A dict from the control of each bag to the deeds that lead to it: (control, actor, way, come)."""
        found = {control: [] for control, _ in self._rows}
        for control, singles in self._singles.items():
            for actor in [None] + singles:
                for way, goal, come in self._controls.deeds(control, actor):
                    if goal in found:
                        found[goal].append((control, actor, way, come))
        return found

    def _is_free(self, control, acting, way, needed):
        """Whether a moment that fits contains no bag: of the one that acts and some that become the needed ones."""
        # Only the fewest others that lead to the bag are tried: with more of them, no fewer bags are contained.
        sources = self._changing(control, way)
        rows = [acting]
        met = {}
        while rows:
            row = rows.pop()
            if row in met or self.holds(control, row):
                continue
            met[row] = True
            many = len(row) - len(acting)
            if many == len(needed):
                return True
            rows.extend([with_one(row, number) for number in sources.get(needed[many], [])])
        return False
