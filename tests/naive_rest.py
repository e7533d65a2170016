"""The points on coming to rest written a second time, word by word and slowly, upon tests/naive.py."""

from tests import naive
from tests.naive_views import naive_of, world_of


def calm_moves(book, world):
    """The list of (step, world behind it) of all answers, takes and ends that do not jam."""
    return [(step, behind) for step, behind in naive.moves(book, world) if step[0] in ("answer", "take", "end")]


def waits(book, world, i):
    return "w" in naive.traits_of(book, world["caches"][i]["state"])


def resting(book, world, i, many):
    """The fewest steps to a world at which cache i rests, and how many worlds fewer steps lead to.

    The fewest steps are None if there is no such world, and "many" if there is no telling.
    """
    layer, met, steps = [world], set(), 0
    while layer:
        if any(not waits(book, one, i) for one in layer):
            return steps, len(met)
        met |= {str(naive.told(book, one)) for one in layer}
        if len(met) > many:
            return "many", len(met)
        further = {}
        for one in layer:
            for _, behind in calm_moves(book, one):
                if str(naive.told(book, behind)) not in met:
                    further[str(naive.told(book, behind))] = behind
        layer, steps = list(further.values()), steps + 1
    return None, len(met)


def stuck(book, world):
    """The caches that wait and cannot come to rest."""
    return [i for i in range(len(world["caches"]))
            if waits(book, world, i) and resting(book, world, i, 10 ** 6)[0] is None]


def restless(book, n, many):
    """The fewest steps to a world at which a cache is stuck, and how many classes fewer steps lead to."""
    count = 0
    layers = naive.layers(book, n, many)
    for steps, layer in enumerate(layers):
        if any(stuck(book, world) for world in layer):
            return steps, count
        count += len(layer)
        if count > many:
            return "many", count
    return None, count


def all_rest(book, many):
    """Whether the views of 1 close without being bad, and no cache is stuck in them; "many" if there are too many."""
    plain = naive_of(book)
    rows = plain.closed(1, many)
    if len(rows) > many:
        return "many"
    moments = [moment for control in {view[0] for view in rows} for moment in plain.moments(rows, 1, control)]
    if any(plain.wrong(moment) for moment in moments):
        return False
    return not any(stuck(book, world_of(view)) for view in rows)
