"""The points on views, bags and bases written a second time, word by word and slowly, upon tests/naive.py.

A moment is told as a view with any number of others; its caches stand as [37] has those of a bag.
"""

from itertools import combinations, combinations_with_replacement

from tests import naive


def world_of(view):
    """The world that has just the caches of the view."""
    (task, memory, owner, asker), others = view
    rows = [] if asker is None else [asker]
    rows += [] if owner in (None, "asker") else [owner]
    caches = [{"state": state, "copy": data, "mark": mark, "ups": dict(ups), "downs": dict(downs)}
              for state, data, mark, ups, downs in rows + list(others)]
    place = None if owner is None else 0 if owner == "asker" else len(rows) - 1
    return {"task": task, "memory": memory, "owner": place, "asker": None if asker is None else 0, "caches": caches}


def view_of(book, world):
    """The view of all caches of the world."""
    (task, memory, owner, asker), caches = naive.told(book, world)
    others = tuple(sorted(cache for i, cache in enumerate(caches) if i not in (owner, asker)))
    told = None if owner is None else "asker" if owner == asker else caches[owner]
    return ((task, memory, told, None if asker is None else caches[asker]), others)


def parts(rows, many):
    """The parts of the rows with at most so many of them."""
    return {part for size in range(min(many, len(rows)) + 1) for part in combinations(rows, size)}


def is_part(few, many):
    """Whether the few stand among the many, each as often."""
    return all(few.count(row) <= many.count(row) for row in few)


KEPT = []


def naive_of(book):
    """The Naive of the book, with all that it has looked for in other tests."""
    for one in KEPT:
        if one.book == book:
            return one
    KEPT.append(Naive(book))
    return KEPT[-1]


class Naive:
    """What moments lead to and what is wrong at them, looked for only once for each."""

    def __init__(self, book):
        self.book = book
        self.led = {}
        self.wrongs = {}
        self.least = {}

    def behind(self, moment):
        """The moments behind all steps that can be taken and do not jam."""
        if moment not in self.led:
            moves = naive.moves(self.book, world_of(moment))
            self.led[moment] = {view_of(self.book, world) for _, world in moves}
        return self.led[moment]

    def wrong(self, moment):
        """The kinds of what is wrong at the moment."""
        if moment not in self.wrongs:
            self.wrongs[moment] = {what[0] for what in naive.wrongs(self.book, world_of(moment))}
        return self.wrongs[moment]

    def views(self, moment, k):
        """The views of k that the moment has."""
        return {(moment[0], part) for part in parts(moment[1], k)}

    def firsts(self, k):
        """The views of k of the first moments."""
        world = naive.first_world(self.book, k + 2)
        return self.views(view_of(self.book, world), k)

    def moments(self, given, k, control):
        """The moments with this control that the list has."""
        singles = sorted({local for one, others in given if one == control for local in others})
        rows = [(control, others) for many in range(k + 2) for others in combinations_with_replacement(singles, many)]
        return [row for row in rows if self.views(row, k) <= given]

    def closed(self, k, most):
        """The least closed list as a set; if it has more than most views, some of more than most of them."""
        if (k, most) not in self.least:
            self.least[k, most] = self.closed_anew(k, most)
        return set(self.least[k, most])

    def closed_anew(self, k, most):
        found, stands = self.firsts(k), False
        while not stands and len(found) <= most:
            more = set(found)
            for control in {view[0] for view in found}:
                for moment in self.moments(found, k, control):
                    for behind in self.behind(moment):
                        more |= self.views(behind, k)
            stands, found = more == found, more
        return found

    def beside(self, given, k, view):
        """The moments that the list has, with the view's control, its others and at most one local more."""
        control, others = view
        singles = {local for one, row in given if one == control for local in row}
        rows = [view] + [(control, tuple(sorted(others + (local,)))) for local in singles]
        return [row for row in rows if self.views(row, k) <= given]

    def closed_fault(self, k, thing):
        """What closed_fault returns of a list of views."""
        given = set(thing)
        if not self.firsts(k) <= given:
            return ("first",)
        for index, view in enumerate(thing):
            moments = self.beside(given, k, view)
            if any(self.wrong(moment) for moment in moments):
                return ("wrong", index)
            if not self.views(view, k) <= given:
                return ("part", index)
            if any(not self.views(behind, k) <= given for moment in moments for behind in self.behind(moment)):
                return ("open", index)
        return None

    def harm(self, bag, many):
        """The fewest steps from the bag's moment to something wrong, and how many moments fewer steps lead to.

        The fewest steps are None if nothing wrong is come to, and "many" if there is no telling.
        """
        layer, met, steps = [world_of(bag)], [], 0
        while layer:
            if any(naive.wrongs(self.book, world) for world in layer):
                return steps, len(met)
            met += [naive.told(self.book, world) for world in layer]
            if len(met) > many:
                return "many", len(met)
            further = {}
            for world in layer:
                for _, behind in naive.moves(self.book, world):
                    if naive.told(self.book, behind) not in met:
                        further[str(naive.told(self.book, behind))] = behind
            layer, steps = list(further.values()), steps + 1
        return None, len(met)

    def fitting(self, given, most):
        """All moments that fit the views of 1, with at most so many others."""
        found = []
        for control in sorted({view[0] for view in given}, key=str):
            singles = sorted({local for one, others in given if one == control for local in others})
            found += [(control, others) for many in range(most + 1)
                      for others in combinations_with_replacement(singles, many)]
        return found

    def contains(self, moment, bags):
        """Whether the moment contains one of the bags."""
        return any(bag[0] == moment[0] and is_part(bag[1], moment[1]) for bag in bags)

    def base_fault(self, thing, runs):
        """What base_fault returns of bags and runs, if the views of 1 are not too many."""
        given = self.closed(1, 10 ** 6)
        for index, (bag, run) in enumerate(zip(thing, runs)):
            if not self.views(bag, 1) <= given:
                return ("fits", index)
            if not self.harms(bag, run):
                return ("run", index)
            if any(other[0] == bag[0] and is_part(other[1], bag[1])
                   for at, other in enumerate(thing) if at != index):
                return ("part", index)
        if any(self.wrong(moment) and not self.contains(moment, thing) for moment in self.fitting(given, 2)):
            return ("lack", -1)
        for index, bag in enumerate(thing):
            for moment in self.fitting(given, len(bag[1]) + 1):
                if not self.contains(moment, thing):
                    if any(self.contains(behind, [bag]) for behind in self.behind(moment)):
                        return ("lack", index)
        return None

    def harms(self, bag, run):
        """Whether the run leads from the bag's moment to one at which something is wrong."""
        world = world_of(bag)
        for step in run:
            behind = [after for one, after in naive.moves(self.book, world) if one == step]
            if not behind:
                return False
            world = behind[0]
        return bool(naive.wrongs(self.book, world))
