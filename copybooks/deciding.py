"""Deciding for all numbers of caches at once whether a book is right."""

from copybooks.checks import check_many, check_most
from copybooks.errors import TooMany, Undecided
from copybooks.searches import shortest
from copybooks.views import views


def decide(book, *, caches=3, most=3000):
    """("right", k, closed list of views of k) or ("wrong", n, run of n caches), whichever is found first."""
    check_many(caches)
    check_most(most)
    found = right(book, 1, most)
    if found is None:
        found = wrong(book, caches, most)
    if found is None:
        found = right(book, 2, most)
    if found is None:
        found = right(book, 3, most)
    if found is None:
        raise Undecided()
    return found


def right(book, k, most):
    """("right", k, list) if the views of k close within the bound, and are not bad; else None."""
    try:
        found = views(book, k, most=most)
    except TooMany:
        return None
    return ("right", k, found[1]) if found[0] == "closed" else None


def wrong(book, caches, most):
    """("wrong", n, run) for the fewest caches that a run is found for within the bound; else None."""
    for n in range(1, caches + 1):
        try:
            run = shortest(book, n, most=most)
        except TooMany:
            return None
        if run is not None:
            return ("wrong", n, run)
    return None
