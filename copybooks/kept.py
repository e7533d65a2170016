"""Bags that are kept so that it is quickly told whether a moment contains one of them."""


class Kept:
    """Bags, told by the numbers of Controls.

    The others of a bag, which are ascending, are the way to its place in a tree; bags with the same control
    and the same first others share their ways. So a moment is compared with many bags at once.
    """

    def __init__(self):
        self._roots = {}
        self._goals = {}
        self._ends = {}
        self._places = 0

    def keep(self, control, others):
        """Keeps one bag more."""
        if control not in self._roots:
            self._roots[control] = self._new_place()
        place = self._roots[control]
        for number in others:
            if (place, number) not in self._goals:
                self._goals[place, number] = self._new_place()
            place = self._goals[place, number]
        self._ends[place] = True

    def _new_place(self):
        self._places += 1
        return self._places

    def holds(self, control, others):
        """Whether the moment contains one of the bags."""
        if control not in self._roots:
            return False
        rows = [(self._roots[control], 0)]
        while rows:
            place, begin = rows.pop()
            if place in self._ends:
                return True
            for at in range(begin, len(others)):
                # Of equal others the first one is enough to begin with.
                if at > begin and others[at] == others[at - 1]:
                    continue
                goal = self._goals.get((place, others[at]))
                if goal is not None:
                    rows.append((goal, at + 1))
        return False
