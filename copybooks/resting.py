"""Coming to rest: whether each cache that waits can be served although nobody wishes anything any more."""

from copybooks.calming import Calm
from copybooks.checks import check_many, check_most, is_integer
from copybooks.errors import NoCache, Undecided
from copybooks.moments import first, played
from copybooks.runs import itself, shortest_run
from copybooks.views import views
from copybooks.worlds import Worlds, class_of


def can_rest(moment, i, *, most=3000):
    """A shortest run without wishes and puts to a moment at which cache i rests, or None."""
    caches = moment.caches()
    if not is_integer(i, 0, len(caches) - 1):
        raise NoCache()
    check_most(most)
    worlds = Worlds(moment.book())
    start = worlds.world_at(moment.home(), caches)
    if not worlds.waits(start[2][i]):
        return []
    return shortest_run(start, worlds.calm_moves, itself, lambda world: not worlds.waits(world[2][i]), most)


def restless(book, n, *, most=3000):
    """A tuple (shortest run, i): it leads to a moment at which cache i waits and cannot come to rest; or None."""
    check_many(n)
    check_most(most)
    worlds = Worlds(book)
    calm = Calm(worlds)
    # Nobody waits at a first moment: state 0 has no traits.
    run = shortest_run(
        worlds.first_world(n), worlds.class_moves, class_of,
        lambda world: calm.restless_one(world) is not None, most,
    )
    if run is None:
        return None
    last = played(first(book, n), run)
    return (run, calm.restless_one(worlds.world_at(last.home(), last.caches())))


def rests(book, *, caches=3, most=3000):
    """("rests",) for all numbers of caches, or ("waits", n, run, i) for the fewest caches that restless tells of."""
    check_many(caches)
    check_most(most)
    if all_rest(book, most):
        return ("rests",)
    for n in range(1, caches + 1):
        found = restless(book, n, most=most)
        if found is not None:
            return ("waits", n, found[0], found[1])
    raise Undecided()


def all_rest(book, most):
    """Whether the views of 1 close without being bad, and in each of them each cache that waits can come to rest."""
    found = views(book, 1, most=most)
    if found[0] != "closed":
        return False
    worlds = Worlds(book)
    calm = Calm(worlds)
    for view in found[1]:
        if calm.restless_one(worlds.world_of(view)) is not None:
            return False
    return True
