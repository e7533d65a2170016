"""The point on real values written a second time, plainly, upon tests/naive.py.

The steps of tests/naive.py carry whatever data they are given, so the values stand in the places of the data;
only a put is another one: it changes no other value.
"""

from copy import deepcopy

from tests import naive


def first_world(book, n):
    world = naive.first_world(book, n)
    world["memory"] = 0
    return world


def led(book, world, step):
    """The world behind a step that is no put and does not jam."""
    behind = deepcopy(world)
    naive.ACTIONS[step[0]](book, behind, *step[1:])
    return behind


def put(world, i, value):
    behind = deepcopy(world)
    behind["caches"][i]["copy"] = value
    return behind


def copy_of(world, i):
    """The value of the copy of cache i, or None."""
    value = world["caches"][i]["copy"]
    return None if value == "none" else value


class Line:
    """A line with its values, and beside it the world with its data."""

    def __init__(self, book, n):
        self.book = book
        self.values = first_world(book, n)
        self.data = naive.first_world(book, n)

    def step(self, step):
        self.values = led(self.book, self.values, step)
        self.data = naive.tried(self.book, self.data, step)[1]

    def put(self, i, value):
        self.values = put(self.values, i, value)
        self.data = naive.tried(self.book, self.data, ("put", i))[1]

    def told(self):
        """What the line's Moment tells."""
        return naive.told(self.book, self.data)

    def held(self):
        """For each cache the value of its copy, or None."""
        return [copy_of(self.values, i) for i in range(len(self.values["caches"]))]
