"""What is an integer, a name, a step, and the checks of the arguments that many functions have."""

from copybooks.errors import NoKinds, NoMany, NoMost, NoViews

LETTERS = "abcdefghijklmnopqrstuvwxyz"

KINDS = ("stale", "jam", "deaf")

MOST_CACHES = 6

MOST_INDEX = 29


def is_whole(value):
    """Whether the value is an integer of any size; a flag is none."""
    return isinstance(value, int) and not isinstance(value, bool)


def is_integer(value, least, greatest):
    """Whether the value is an integer of this range."""
    return is_whole(value) and least <= value <= greatest


def is_name(value):
    """Whether the value is a name: 1 to 8 letters from a to z."""
    if not isinstance(value, str) or not 1 <= len(value) <= 8:
        return False
    return all([letter in LETTERS for letter in value])


def is_step(value):
    """Whether the value has the form of a step, whatever the book."""
    if not isinstance(value, tuple) or value == ():
        return False
    if value[0] == "end":
        return len(value) == 1
    if len(value) < 2 or not is_integer(value[1], 0, MOST_CACHES - 1):
        return False
    if value[0] == "put":
        return len(value) == 2
    if len(value) != 3:
        return False
    if value[0] == "wish":
        return is_integer(value[2], 0, MOST_INDEX)
    return value[0] in ("answer", "take") and is_name(value[2])


def check_many(many):
    """Raises NoMany unless the value is a number of caches."""
    if not is_integer(many, 1, MOST_CACHES):
        raise NoMany()


def check_kinds(kinds):
    """Raises NoKinds unless the value is a tuple of kinds of what is wrong, none twice."""
    if not isinstance(kinds, tuple) or kinds == ():
        raise NoKinds()
    for at, kind in enumerate(kinds):
        if kind not in KINDS or kind in kinds[:at]:
            raise NoKinds()


def check_most(most):
    """Raises NoMost unless the value is a bound from 1 to 20000."""
    if not is_integer(most, 1, 20000):
        raise NoMost()


def check_views(k):
    """Raises NoViews unless the value is a number of others that views may have."""
    if not is_integer(k, 1, 3):
        raise NoViews()
