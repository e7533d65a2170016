"""What is a view of a book, or a bag, among values of any sort."""

from copybooks.bookparts import has_length
from copybooks.checks import MOST_CACHES
from copybooks.errors import NoBag

DATA = ("none", "elder", "last")


def is_one_of(value, names):
    """Whether the value is one of the names; other values could not be looked for among them."""
    return isinstance(value, str) and value in names


def is_ascending(rows):
    """Whether no row is less than the one ahead of it."""
    return all([rows[at] <= row for at, row in enumerate(rows[1:])])


class Forms:
    """Tells the views of a book from other values."""

    def __init__(self, book):
        self._traits = {name: traits for name, traits in book.states()}
        self._marks = book.marks()
        self._tasks = [row[0] for row in book.tasks()]
        self._ups = book.ups()
        self._downs = book.downs()

    def _is_local(self, value):
        if not has_length(value, 5):
            return False
        state, held, mark, ups, downs = value
        if not is_one_of(state, self._traits) or not is_one_of(mark, self._marks):
            return False
        if held not in (DATA if "h" in self._traits[state] else ("none",)):
            return False
        return self._is_road(ups, self._ups) and self._is_road(downs, self._downs)

    def _is_road(self, value, kinds):
        """Whether the value is a tuple of letters of these kinds, in their order, one of each kind at most."""
        if not isinstance(value, tuple) or not all([has_length(letter, 2) for letter in value]):
            return False
        names = [name for name, _ in kinds]
        places = [names.index(name) for name, _ in value if is_one_of(name, names)]
        if len(places) != len(value) or places != sorted(set(places)):
            return False
        return all([
            data in DATA if kinds[place][1] else data is None
            for place, (_, data) in zip(places, value)
        ])

    def _is_control(self, value):
        if not has_length(value, 4):
            return False
        task, memory, owner, asker = value
        if memory not in DATA:
            return False
        if task is None:
            return asker is None and (owner is None or self._is_local(owner))
        if not is_one_of(task, self._tasks) or not self._is_local(asker):
            return False
        return owner is None or owner == "asker" or self._is_local(owner)

    def is_view(self, value):
        """Whether the value is a view of the book, of any number of others."""
        if not has_length(value, 2) or not self._is_control(value[0]):
            return False
        others = value[1]
        return isinstance(others, tuple) and all([self._is_local(local) for local in others]) and is_ascending(others)

    def are_views(self, value, k):
        """Whether the value is a list of views of k."""
        return isinstance(value, list) and all([self.is_view(view) and len(view[1]) <= k for view in value])

    def is_bag(self, value):
        """Whether the value is a bag of as many caches as a moment may have."""
        if not self.is_view(value):
            return False
        (_, _, owner, asker), others = value
        many = len([one for one in (owner, asker) if one is not None and one != "asker"])
        return many + len(others) <= MOST_CACHES

    def are_bags(self, value):
        """Whether the value is a list of bags."""
        return isinstance(value, list) and all([self.is_bag(bag) for bag in value])


def check_bag(book, bag):
    """Raises NoBag unless the value is a bag of the book."""
    if not Forms(book).is_bag(bag):
        raise NoBag()
