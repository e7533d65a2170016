"""The moments that fit the least closed list of views of 1: what is wrong at them, and what leads to them."""

from copybooks.closing import Closing
from copybooks.controls import CALLED, with_one, without

# How many others it takes at most for something to be wrong.
MOST_WRONG = 2


def left_over(others, come):
    """The others without those that come, each as often as it comes."""
    for number in come:
        if number in others:
            others = without(others, number)
    return others


class Fitting:
    """The moments of a book that fit, told by the numbers of Controls.

    By each control stand its singles: those that may be its only other. A moment fits if its control and
    its others are among them.
    """

    def __init__(self, controls, most):
        self._controls = controls
        self._singles = Closing(controls, 1, most).singles()
        self._sources = {}

    def controls(self):
        """The controls of all moments that fit."""
        return list(self._singles)

    def fits(self, control, others):
        """Whether the moment fits."""
        return control in self._singles and all([number in self._singles[control] for number in others])

    def wrong_rows(self, control, many):
        """Just so many others beside which something is wrong; each moment that is wrong has a part among them."""
        # What is wrong at a moment is wrong already at that of its control and two of its others at most,
        # and what takes two of them is the jam of a task that begins.
        if many == MOST_WRONG:
            return self._jamming_pairs(control)
        rows = [()] if many == 0 else [(number,) for number in self._singles[control]]
        return [others for others in rows if self._controls.wrong_kind(control, others) is not None]

    def _jamming_pairs(self, control):
        """The pairs of others of which one begins a task whose letter to the other one jams."""
        found = []
        for actor in self._singles[control]:
            for way, _, _ in self._controls.starts(control, actor):
                if way[0] == CALLED:
                    rows = self.sources(control, way).get(None, [])
                    found.extend([with_one((actor,), number) for number in rows])
        return found

    def sources(self, control, way):
        """A dict from what may become of the control's singles, None among it, to the lists of those."""
        key = (control, way)
        if key not in self._sources:
            found = {}
            for number in self._singles[control]:
                found.setdefault(self._controls.changed(number, way), []).append(number)
            self._sources[key] = found
        return self._sources[key]

    def arrivals(self):
        """A dict from each control to the deeds that lead to it: (control, those who act, way, come), each once."""
        found = {control: {} for control in self._singles}
        for control, singles in self._singles.items():
            for actor in [None] + singles:
                acting = () if actor is None else (actor,)
                for way, goal, come in self._controls.deeds(control, actor):
                    if goal is not None:
                        found[goal][control, acting, way, come] = True
        return {control: list(rows) for control, rows in found.items()}
