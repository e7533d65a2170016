"""Lists of views as somebody hands them in, to be judged view by view."""

from copybooks.controls import distinct, with_one, without


def parts_with(others, many):
    """The parts of just so many of the others, each once."""
    rows = {others: True}
    for _ in range(len(others) - many):
        rows = {without(row, number): True for row in rows for number in distinct(row)}
    return list(rows)


class Paper:
    """A list of views of k, told by the numbers of Controls."""

    def __init__(self, controls, k, rows):
        self._controls = controls
        self._k = k
        self._given = {row: True for row in rows}
        self._had = {}
        self._wrong = {}
        self._open = {}
        self._singles = {}
        self._striking = {}
        # By each control the views of just k others.
        self._great = {}
        for control, others in self._given:
            if len(others) == k:
                self._great.setdefault(control, []).append(others)
            if len(others) == 1:
                self._singles.setdefault(control, []).append(others[0])

    def has(self, control, others):
        """Whether the list has the moment: all the views of k that it has are in the list."""
        if len(others) > self._k:
            return all([self.has(control, part) for part in parts_with(others, self._k)])
        key = (control, others)
        if key not in self._had:
            rest = [without(others, number) for number in distinct(others)]
            self._had[key] = key in self._given and all([self.has(control, part) for part in rest])
        return self._had[key]

    def fault(self, control, others):
        """The word for what is wrong with a view of the list, or None."""
        # A list that lacks a part has no moment with this view, so there is nothing else to be found.
        if not self.has(control, others):
            return "part"
        moments = [others] + self._greater(control, others)
        if any([self._is_wrong(control, row) for row in moments]):
            return "wrong"
        if any([self._is_open(control, row) for row in moments]):
            return "open"
        return None

    def _greater(self, control, others):
        """The moments with one other more that the list has, but for some that cannot show a fault."""
        further = self._further(control, others)
        rows = [with_one(others, number) for number in further]
        return [row for row in rows if self.has(control, row)]

    def _further(self, control, others):
        """Those that may stand beside the others of a view, if they could show a fault that it does not show."""
        singles = self._singles.get(control, [])
        if len(others) < self._k or any([self._controls.starts(control, number) for number in others]):
            return singles
        # Here each deed touches k of the others at most, but for those that the further one starts.
        return self._striking_ones(control)

    def _striking_ones(self, control):
        """Those that may start a deed that touches others, or show a fault with fewer than k more."""
        if control not in self._striking:
            open_rows = [row for row in self._great.get(control, [])
                         if self.has(control, row) and self._is_open(control, row)]
            met = {number: True for row in open_rows for number in row}
            self._striking[control] = [
                number for number in self._singles.get(control, [])
                if number in met or self._controls.starts(control, number) or self._is_wrong(control, (number,))
            ]
        return self._striking[control]

    def _is_wrong(self, control, others):
        """Whether something is wrong at the moment."""
        if len(others) > self._k:
            return self._controls.wrong_kind(control, others) is not None
        key = (control, others)
        if key not in self._wrong:
            self._wrong[key] = self._controls.wrong_kind(control, others) is not None
        return self._wrong[key]

    def _is_open(self, control, others):
        """Whether a step leads from the moment to one that the list does not have."""
        if len(others) > self._k:
            return self._leads_out(control, others)
        key = (control, others)
        if key not in self._open:
            self._open[key] = self._leads_out(control, others)
        return self._open[key]

    def _leads_out(self, control, others):
        for actor in [None] + distinct(others):
            rest = others if actor is None else without(others, actor)
            for deed in self._controls.deeds(control, actor):
                behind = self._controls.behind(deed, rest)
                if behind is not None and not self.has(behind[0], behind[1]):
                    return True
        return False
