"""What may stand beside what, and which items of a book are needless or used."""

from copybooks.bookparts import RULES, has_length
from copybooks.books import book_of, parts_of
from copybooks.checks import check_many, check_most
from copybooks.errors import NoPair, NoRun, NotRight, TooMany
from copybooks.moments import first, played
from copybooks.resting import all_rest
from copybooks.runs import shortest_run
from copybooks.views import views
from copybooks.worlds import Worlds, class_of


def closed_views(book, k, most):
    """The least closed list of views of k; raises NotRight if it is bad."""
    found = views(book, k, most=most)
    if found[0] != "closed":
        raise NotRight()
    return found[1]


def states_in(view):
    """The states of the caches of a view."""
    (_, _, owner, asker), others = view
    rows = [local for local in (owner, asker) if local is not None and local != "asker"]
    return [local[0] for local in rows + list(others)]


def beside(book, *, most=3000):
    """The list of the pairs of states that two caches of a view of 2 are in."""
    check_most(most)
    met = {}
    for view in closed_views(book, 2, most):
        states = states_in(view)
        for at, state in enumerate(states):
            for other in states[at + 1:]:
                met[state, other] = True
                met[other, state] = True
    names = [name for name, _ in book.states()]
    return [(name, other) for at, name in enumerate(names) for other in names[at:] if (name, other) in met]


def check_pair(book, pair):
    """Raises NoPair unless the value is a tuple of two states, the first one not behind the second."""
    names = [name for name, _ in book.states()]
    if not has_length(pair, 2) or not all([state in names for state in pair]):
        raise NoPair()
    if names.index(pair[0]) > names.index(pair[1]):
        raise NoPair()


def has_pair(caches, pair):
    """Whether two of the caches, told by their locals, are in these states."""
    states = [local[0] for local in caches]
    if pair[0] == pair[1]:
        return states.count(pair[0]) > 1
    return pair[0] in states and pair[1] in states


def beside_run(book, pair, *, caches=3, most=3000):
    """The tuple (n, shortest run) for the fewest caches of which two can come to these states, or None."""
    check_pair(book, pair)
    check_many(caches)
    check_most(most)
    worlds = Worlds(book)
    for n in range(2, caches + 1):
        run = run_beside(worlds, n, pair, most)
        if run is not None:
            return (n, run)
    return None


def run_beside(worlds, n, pair, most):
    """A shortest run of n caches to a world at which two are in these states, or None."""
    start = worlds.first_world(n)
    if has_pair(worlds.caches(start), pair):
        return []
    return shortest_run(
        start, worlds.class_moves, class_of, lambda world: has_pair(worlds.caches(world), pair), most,
    )


def beside_fault(book, pair, n, thing):
    """The first fault of a run that should end at two caches in these states; or None."""
    check_pair(book, pair)
    check_many(n)
    if not isinstance(thing, list):
        return ("form",)
    try:
        moment = played(first(book, n), thing)
    except NoRun as fault:
        return ("step", fault.index)
    return None if has_pair(moment.caches(), pair) else ("apart",)


def is_fit(book, most):
    """Whether decide tells the book right, and rests tells that it rests."""
    # Whoever rests does so by a closed list of views of 1 that is not bad, which decide asks for first.
    try:
        return all_rest(book, most)
    except TooMany:
        return False


def places_of(parts):
    """The list of (part, index) of all items of the parts that tell what caches and home do."""
    return [(part, index) for part in RULES for index in range(len(parts[part]))]


def needless(book, *, caches=3, most=3000):
    """The list of (part, index) of the items without each of which, by itself, the book is still fit."""
    check_many(caches)
    check_most(most)
    if not is_fit(book, most):
        raise NotRight()
    parts = parts_of(book)
    # Without a wish there are no views that were not there with it, and nobody needs one to come to rest.
    return [
        (part, index) for part, index in places_of(parts)
        if part == "wishes" or is_fit(without_item(parts, part, index), most)
    ]


def without_item(parts, part, index):
    """The book of the parts without an item."""
    rest = dict(parts)
    rest[part] = parts[part][:index] + parts[part][index + 1:]
    return book_of(rest)


def used(book, *, most=3000):
    """The list of (part, index) of the items by which steps are made from the views of 1."""
    check_most(most)
    rows = closed_views(book, 1, most)
    worlds = Worlds(book)
    parts = parts_of(book)
    items = items_by_heads(parts)
    met = {}
    for view in rows:
        world = worlds.world_of(view)
        caches = worlds.caches(world)
        for step, _ in worlds.free_moves(world):
            if step[0] in ("wish", "answer", "take"):
                met[item_of(step, world[0], caches[step[1]], items)] = True
    return [place for place in places_of(parts) if place in met]


def items_by_heads(parts):
    """A dict from what answers and takes go by to the (part, index) of the item."""
    found = {}
    for index, row in enumerate(parts["answers"]):
        found["answer", row[0], row[1]] = ("answers", index)
    for index, row in enumerate(parts["idles"]):
        found["take", None, row[0], row[1]] = ("idles", index)
    for index, row in enumerate(parts["busies"]):
        found["take", row[0], row[1], row[2]] = ("busies", index)
    return found


def item_of(step, task, local, items):
    """The (part, index) of the item by which a cache with this local makes the step."""
    word, _, at = step
    if word == "wish":
        return ("wishes", at)
    if word == "answer":
        return items["answer", local[0], at]
    return items["take", task, local[2], at]
