"""The least closed list of views of a book."""

from copybooks.controls import ENDED, distinct, with_one, without
from copybooks.errors import TooMany


def parts_of(come):
    """All parts of the others that come of a deed, each once; they are two at most."""
    rows = [()]
    for number in come:
        rows = rows + [row + (number,) for row in rows if row + (number,) not in rows]
    return rows


class Closing:
    """The least closed list of views of k, all told by the numbers of Controls.

    It is closed under parts without further ado: where a deed can be done beside some others, it can be
    done beside a part of them, and these views are gone through, too. For the same reason a moment of
    k + 1 others, which is none of the views, is asked only for the deeds of one of its others that touch
    the k further ones.
    """

    def __init__(self, controls, k, most):
        self._controls = controls
        self._k = k
        self._most = most
        self._rows = []
        self._met = {}
        self._wrong = None
        # The views of just k others that were gone through, and by their control all others in them,
        # and those of these others that touch further ones.
        self._great = {}
        self._members = {}
        self._starters = {}
        for many in range(k + 1):
            control, others = controls.first_view(many)
            self._add(control, others)
        self._close()

    def rows(self):
        """The list of the views: (control, others)."""
        return list(self._rows)

    def wrong(self):
        """A moment that the list has at which something is wrong: (kind, control, others); None if it is not bad."""
        return self._wrong

    def singles(self):
        """A dict from each control to the list of those that may stand beside it as its only other."""
        found = {}
        for control, others in self._rows:
            if control not in found:
                found[control] = []
            if len(others) == 1:
                found[control].append(others[0])
        return found

    def _add(self, control, others):
        key = (control, others)
        if key not in self._met:
            if len(self._rows) == self._most:
                raise TooMany(self._most)
            self._met[key] = True
            self._rows.append(key)

    def _close(self):
        at = 0
        while at < len(self._rows):
            control, others = self._rows[at]
            at += 1
            # What is wrong by itself is wrong beside one other at most; jams of two are met by their deeds.
            if self._wrong is None and len(others) < 2:
                kind = self._controls.wrong_kind(control, others)
                self._wrong = None if kind is None else (kind, control, others)
            self._lead(control, others, self._controls.deeds(control, None), others)
            for actor in distinct(others):
                self._lead(control, others, self._controls.deeds(control, actor), without(others, actor))
            if len(others) == self._k:
                self._grow(control, others)

    def _lead(self, control, others, deeds, rest):
        """Adds what these deeds lead to from a moment; the rest is all others but the one that acts."""
        for way, goal, come in deeds:
            found = [self._controls.changed(number, way) for number in rest]
            if None in found and way[0] == ENDED:
                continue
            if goal is None or None in found:
                if self._wrong is None:
                    self._wrong = ("jam", control, others)
                continue
            for part in parts_of(come):
                if len(found) + len(part) <= self._k:
                    self._add(goal, tuple(sorted(found + list(part))))

    def _grow(self, control, others):
        """Goes through the moments of k + 1 others that the list has now that it has this view of k."""
        self._enlist(control, others)
        starters = self._starters[control]
        starts = any([number in starters for number in others])
        for number in list(self._members[control] if starts else starters):
            more = with_one(others, number)
            if all([(control, without(more, one)) in self._great for one in distinct(more)]):
                for actor in distinct(more):
                    if actor in starters:
                        self._lead(control, more, self._controls.starts(control, actor), without(more, actor))

    def _enlist(self, control, others):
        self._great[control, others] = True
        if control not in self._members:
            self._members[control] = {}
            self._starters[control] = {}
        for number in others:
            self._members[control][number] = True
            if self._controls.starts(control, number):
                self._starters[control][number] = True
