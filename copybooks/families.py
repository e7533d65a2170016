"""Families of books that differ in a few items, and the least mends of a book that is wrong."""

from copybooks.bookparts import ITEMS, RULES, has_length, names_of
from copybooks.books import book_of, parts_of
from copybooks.checks import MOST_CACHES, check_many, check_most, is_integer
from copybooks.deciding import decide
from copybooks.errors import NoBook, NoFamily, NoPick, Undecided
from copybooks.searches import run_fault
from copybooks.viewjudge import closed_fault

MOST_CHOICES = 4

MOST_ITEMS = 3


def is_choice(row, parts, names):
    """Whether the row is a choice among what may stand in the place of an item, by itself."""
    if not has_length(row, 3) or row[0] not in RULES:
        return False
    part, index, items = row
    if not is_integer(index, 0, len(parts[part]) - 1):
        return False
    if not isinstance(items, list) or not 1 <= len(items) <= MOST_ITEMS:
        return False
    is_item = ITEMS[part]
    return all([item is None or is_item(item, names) for item in items])


def wrong_choice(choices, parts):
    """The index of the first wrong choice; -1 if there is no list of a right length, None if all are right."""
    if not isinstance(choices, list) or not 1 <= len(choices) <= MOST_CHOICES:
        return -1
    names = names_of(parts)
    for index, row in enumerate(choices):
        if not is_choice(row, parts, names) or row[:2] in [other[:2] for other in choices[:index]]:
            return index
    return None


class Family:
    """A book, and those in which other things stand in the places of some of its items; it does not change."""

    def __init__(self, book, choices):
        self._parts = parts_of(book)
        index = wrong_choice(choices, self._parts)
        if index is not None:
            raise NoFamily(index)
        self._choices = [(part, place, list(items)) for part, place, items in choices]
        self._picks = [pick for pick in self._all_picks() if self._has_book(pick)]

    def _all_picks(self):
        """The ascending list of all picks, whether there is a book for them or not."""
        rows = [()]
        for _, _, items in self._choices:
            rows = [row + (chosen,) for row in rows for chosen in range(len(items) + 1)]
        return rows

    def _has_book(self, pick):
        try:
            self.book(pick)
        except NoBook:
            return False
        return True

    def _is_pick(self, value):
        """Whether the value has the form of a pick."""
        if not has_length(value, len(self._choices)):
            return False
        return all([is_integer(chosen, 0, len(row[2])) for chosen, row in zip(value, self._choices)])

    def book(self, pick):
        """The book in which the things of the pick stand."""
        if not self._is_pick(pick):
            raise NoPick()
        parts = {part: list(rows) for part, rows in self._parts.items()}
        for (part, index, items), chosen in zip(self._choices, pick):
            if chosen > 0:
                parts[part][index] = items[chosen - 1]
        for part in RULES:
            parts[part] = [row for row in parts[part] if row is not None]
        return book_of(parts)

    def picks(self):
        """The ascending list of all picks for which there is a book."""
        return list(self._picks)

    def __contains__(self, pick):
        return self._is_pick(pick) and pick in self._picks

    def __len__(self):
        return len(self._picks)


def changes(pick):
    """How many items the pick changes."""
    return len([chosen for chosen in pick if chosen != 0])


def picks_with(family, many):
    """The picks of the family that change just so many items."""
    return [pick for pick in family.picks() if changes(pick) == many]


def word_and_number(book, caches, most):
    """("right", k), ("wrong", n) or ("open", 0), as decide tells it."""
    try:
        found = decide(book, caches=caches, most=most)
    except Undecided:
        return ("open", 0)
    return found[:2]


def sort_family(family, *, caches=3, most=3000):
    """The list of tuples (pick, word, number), of all picks."""
    check_many(caches)
    check_most(most)
    return [(pick,) + word_and_number(family.book(pick), caches, most) for pick in family.picks()]


def least_mends(family, *, caches=3, most=3000):
    """The picks that lead to a right book and change the fewest items; [] if there is none."""
    check_many(caches)
    check_most(most)
    for many in range(MOST_CHOICES + 1):
        found = [
            pick for pick in picks_with(family, many)
            if word_and_number(family.book(pick), caches, most)[0] == "right"
        ]
        if found:
            return found
    return []


def mends_paper(family, *, caches=3, most=3000):
    """The least mends, and a dict to what decide returns, from all picks that change no more items."""
    check_many(caches)
    check_most(most)
    papers = {}
    for many in range(MOST_CHOICES + 1):
        rows = picks_with(family, many)
        for pick in rows:
            papers[pick] = decide(family.book(pick), caches=caches, most=most)
        found = [pick for pick in rows if papers[pick][0] == "right"]
        if found:
            return (found, papers)
    return ([], papers)


def mends_fault(family, thing, papers):
    """The first fault of the least mends and their papers, or None."""
    if not are_mends(family, thing) or not isinstance(papers, dict):
        return ("form",)
    greatest = changes(thing[0]) if thing else MOST_CHOICES
    for pick in family.picks():
        if changes(pick) <= greatest and not holds(papers.get(pick), family.book(pick), pick in thing):
            return ("paper", pick)
    return None


def are_mends(family, value):
    """Whether the value is an ascending list of different picks that change equally many items."""
    if not isinstance(value, list) or not all([pick in family for pick in value]):
        return False
    pairs = list(zip(value, value[1:]))
    return all([one < other and changes(one) == changes(other) for one, other in pairs])


def holds(paper, book, right):
    """Whether the paper proves that the book is right, or that it is wrong."""
    if not has_length(paper, 3):
        return False
    word, number, proof = paper
    if right:
        return word == "right" and is_integer(number, 1, 3) and closed_fault(book, number, proof) is None
    return word == "wrong" and is_integer(number, 1, MOST_CACHES) and run_fault(book, number, proof) is None
