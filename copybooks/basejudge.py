"""Harm that can still come of a moment, and the judge of bases."""

from copybooks.bags import Bags
from copybooks.checks import KINDS, check_most
from copybooks.controls import Controls
from copybooks.errors import NoRun
from copybooks.fitting import Fitting
from copybooks.forms import Forms, check_bag
from copybooks.moments import Moment, played
from copybooks.runs import itself, shortest_run
from copybooks.worlds import Worlds


def harm(book, bag, *, most=3000):
    """A shortest run from the moment of the bag to something wrong, or None."""
    check_bag(book, bag)
    check_most(most)
    worlds = Worlds(book)
    start = worlds.world_of(bag)
    if worlds.wrong_kind(start, KINDS) is not None:
        return []
    return shortest_run(
        start, worlds.free_moves, itself, lambda world: worlds.wrong_kind(world, KINDS) is not None, most,
    )


def base_fault(book, thing, runs, *, most=2000):
    """The first fault of a list of bags that should be the base, with a run to harm for each; or None."""
    check_most(most)
    if not Forms(book).are_bags(thing) or not are_runs(runs, len(thing)):
        return ("form",)
    controls = Controls(book)
    bags = Bags(Fitting(controls, most), [controls.read(bag) for bag in thing])
    worlds = Worlds(book)
    for index, bag in enumerate(thing):
        if not bags.fits(index):
            return ("fits", index)
        if not does_harm(book, worlds, bag, runs[index]):
            return ("run", index)
        if not bags.is_least(index):
            return ("part", index)
    if bags.lacks_wrong():
        return ("lack", -1)
    index = bags.open_index()
    return None if index is None else ("lack", index)


def are_runs(value, many):
    """Whether the value is a list of so many lists."""
    return isinstance(value, list) and len(value) == many and all([isinstance(run, list) for run in value])


def does_harm(book, worlds, bag, run):
    """Whether the run leads from the moment of the bag to one at which something is wrong."""
    try:
        moment = played(Moment(book, worlds, worlds.world_of(bag)), run)
    except NoRun:
        return False
    return moment.wrongs() != []
