"""Shortest runs from the first moments, and the judge of such runs."""

from copybooks.checks import check_kinds, check_many, check_most
from copybooks.errors import NoStep, TooMany
from copybooks.moments import first
from copybooks.runs import shortest_run
from copybooks.worlds import Worlds, class_of


def reached(book, n, *, most=3000):
    """How many classes of moments can be come to from the first moment of n caches."""
    check_many(n)
    check_most(most)
    worlds = Worlds(book)
    rows = [worlds.first_world(n)]
    met = {class_of(rows[0]): True}
    at = 0
    while at < len(rows):
        moves = worlds.class_moves(rows[at])
        for _, behind in moves:
            key = class_of(behind)
            if key not in met:
                if len(rows) == most:
                    raise TooMany(most)
                met[key] = True
                rows.append(behind)
        at += 1
    return len(rows)


def shortest(book, n, *, kinds=("stale", "jam", "deaf"), most=3000):
    """A shortest run from the first moment of n caches to something wrong, or None."""
    check_many(n)
    check_kinds(kinds)
    check_most(most)
    return search(Worlds(book), n, kinds, most)


def search(worlds, n, kinds, most):
    """What shortest returns, of arguments that are right."""
    # Nothing is wrong at a first moment: no state 0 may be read in, no letter is under way, no task is on.
    return shortest_run(
        worlds.first_world(n), worlds.class_moves, class_of,
        lambda world: worlds.wrong_kind(world, kinds) is not None, most,
    )


def fewest(book, *, kinds=("stale", "jam", "deaf"), caches=3, most=3000):
    """The tuple (n, run) for the fewest caches for which there is a shortest run, or None."""
    check_kinds(kinds)
    check_many(caches)
    check_most(most)
    worlds = Worlds(book)
    for n in range(1, caches + 1):
        run = search(worlds, n, kinds, most)
        if run is not None:
            return (n, run)
    return None


def is_wrong(moment, kinds):
    """Whether something of these kinds is wrong at the moment."""
    return any([wrong[0] in kinds for wrong in moment.wrongs()])


def run_fault(book, n, thing, *, kinds=("stale", "jam", "deaf")):
    """The first fault of a run that should end at something wrong, and not be wrong earlier; or None."""
    check_many(n)
    check_kinds(kinds)
    if not isinstance(thing, list):
        return ("form",)
    moment = first(book, n)
    for index, step in enumerate(thing):
        if is_wrong(moment, kinds):
            return ("early", index)
        try:
            moment = moment.after(step)
        except NoStep:
            return ("step", index)
    return None if is_wrong(moment, kinds) else ("good",)
