"""Points [20] to [25] and [37] to [40] on books made by chance, compared with a second, plain writing of them."""

import unittest
from itertools import combinations

from copybooks.basejudge import base_fault, harm
from copybooks.deciding import decide
from copybooks.errors import TooMany, Undecided
from copybooks.searches import fewest
from copybooks.viewjudge import closed_fault
from copybooks.views import views
from tests.naive_views import Naive
from tests.samples import (
    Chance, both_become_others, called_twice, chance_book, example_parts, near_book, putting, right_by_three, right_by_two,
    shared_parts, told_by_calls, wrong_by_four,
)


def other_road(chance, kinds):
    """A road with some letters of these kinds."""
    return tuple((name, chance.one_of(["none", "elder", "last"]) if bears else None)
                 for name, bears in kinds if chance.below(3) == 0)


def other_local(chance, book, local):
    """The local with one of its things changed."""
    state, data, mark, ups, downs = local
    place = chance.below(4)
    if place == 0:
        state, traits = chance.one_of(book.states())
        data = chance.one_of(["none", "elder", "last"]) if "h" in traits else "none"
    elif place == 1:
        mark = chance.one_of(book.marks())
    elif place == 2:
        ups = other_road(chance, book.ups())
    else:
        downs = other_road(chance, book.downs())
    return (state, data, mark, ups, downs)


def shuffled(chance, rows):
    """The rows in another order."""
    rows, found = list(rows), []
    while rows:
        found.append(rows.pop(chance.below(len(rows))))
    return found


def with_more(chance, book, k, rows):
    """The rows with a changed view, and mostly with its parts."""
    locals_met = [local for _, others in rows for local in others] + [
        local for control, _ in rows for local in control[2:] if isinstance(local, tuple)]
    if not locals_met:
        return rows
    control, others = chance.one_of(rows)
    local = other_local(chance, book, chance.one_of(locals_met))
    more = tuple(sorted((others + (local,))[-1 - chance.below(k):]))
    sizes = range(len(more) + 1) if chance.below(4) else [len(more)]
    return rows + [(control, part) for size in sizes for part in combinations(more, size)]


def slipped(chance, book, k, rows):
    """The rows with a slip or two, and in another order."""
    rows = shuffled(chance, rows)
    for _ in range(chance.below(3)):
        rows = rows[:-1 - chance.below(2)]
    if chance.flag():
        rows = with_more(chance, book, k, rows) if rows else rows
    if chance.below(3):
        rows += [view for view in sorted(Naive(book).firsts(k)) if view not in rows]
    return shuffled(chance, rows) + rows[:chance.below(3)]


class TestViews(unittest.TestCase):

    def compare(self, book, k, most, many, chance):
        """Compares the list, its bound at the edge, and the judge on many lists with slips; returns the words."""
        plain = Naive(book)
        rows = plain.closed(k, most)
        if len(rows) > most:
            with self.assertRaises(TooMany):
                views(book, k, most=most)
            return {"many"}
        if len(rows) > 1:
            with self.assertRaises(TooMany):
                views(book, k, most=len(rows) - 1)
        found = views(book, k, most=len(rows))
        moments = [moment for control in {view[0] for view in rows} for moment in plain.moments(rows, k, control)]
        self.assertEqual(found[0], "wrong" if any(plain.wrong(moment) for moment in moments) else "closed")
        if found[0] == "closed":
            self.assertEqual(sorted(found[1], key=str), sorted(rows, key=str))
            words = {"closed"}
        else:
            self.assertIn(found[1], plain.wrong(found[2]))
            self.assertIn(found[2], moments)
            words = {found[1]}
        for _ in range(many):
            thing = slipped(chance, book, k, sorted(rows, key=str))
            fault = plain.closed_fault(k, thing)
            self.assertEqual(closed_fault(book, k, thing), fault)
            words.add(fault and fault[0])
        return words

    def test_books_by_chance(self):
        words, chance = set(), Chance(1)
        # The latter are right.
        for seed in [*range(40), 454, 207, 557, 70, 268, 372, 650]:
            for k, most in ((1, 54), (2, 40), (3, 25)):
                words |= self.compare(chance_book(seed), k, most, 6, chance)
        self.assertEqual(words, {"many", "closed", "stale", "jam", "deaf", None, "first", "part", "wrong", "open"})

    def test_books_that_are_nearly_right(self):
        words, chance = set(), Chance(2)
        for seed in range(14):
            for k, most in ((1, 80), (2, 72)):
                words |= self.compare(near_book(seed, example_parts()), k, most, 5, chance)
            words |= self.compare(near_book(seed, shared_parts()), 1, 100, 5, chance)
        self.assertEqual(words, {"many", "closed", "stale", "jam", "deaf", None, "first", "part", "wrong", "open"})

    def test_books_in_which_others_touch_others(self):
        words, chance = set(), Chance(3)
        for book in (putting(), called_twice(), right_by_two()):
            for k in (1, 2, 3):
                words |= self.compare(book, k, 50, 40, chance)
        for book in (right_by_three(), wrong_by_four(), told_by_calls(), both_become_others()):
            words |= self.compare(book, 1, 100, 20, chance)
        self.assertEqual(words, {"many", "closed", "jam", "deaf", None, "first", "part", "wrong", "open"})


class TestDecide(unittest.TestCase):

    def test_the_order_of_asking(self):
        words = set()
        books = [chance_book(seed) for seed in range(200)] + [near_book(25, shared_parts()), near_book(61, shared_parts())]
        for book in books:
            for caches, most in ((1, 60), (2, 200), (3, 25), (3, 2000)):
                found = self.asked(book, caches, most)
                if found is None:
                    with self.assertRaises(Undecided):
                        decide(book, caches=caches, most=most)
                else:
                    self.assertEqual(decide(book, caches=caches, most=most), found)
                words.add(None if found is None else found[:2])
        self.assertEqual(words, {None, ("right", 1), ("right", 2), ("wrong", 1), ("wrong", 2), ("wrong", 3)})

    def closed(self, book, k, most):
        try:
            found = views(book, k, most=most)
        except TooMany:
            return None
        return ("right", k, found[1]) if found[0] == "closed" else None

    def asked(self, book, caches, most):
        """What decide returns, asked one by one."""
        try:
            found = fewest(book, caches=caches, most=most)
        except TooMany:
            found = None
        run = None if found is None else ("wrong",) + found
        return self.closed(book, 1, most) or run or self.closed(book, 2, most) or self.closed(book, 3, most)


class TestBases(unittest.TestCase):

    def least(self, plain, given, most):
        """The least harmful bags of at most so many others, with a run for each."""
        rows = []
        for bag in plain.fitting(given, most):
            if not plain.contains(bag, [one for one, _ in rows]):
                run = harm(plain.book, bag, most=20000)
                if run is not None:
                    rows.append((bag, run))
        return rows

    def slipped(self, chance, plain, given, rows):
        """The bags and runs with a slip, and in another order."""
        rows, place = shuffled(chance, rows), chance.below(6)
        bag, run = rows[-1]
        if place == 0:
            return rows[:-1 - chance.below(2)]
        if place == 1:
            return rows[:-1] + [(bag, run[:-1])]
        if place == 2:
            return rows + [rows[0]]
        bag = chance.one_of(plain.fitting(given, 2)) if place < 5 else bag
        if place == 5:
            local = other_local(chance, plain.book, chance.one_of([one for _, others in given for one in others]))
            bag = (bag[0], (local,))
        run = harm(plain.book, bag, most=20000)
        return shuffled(chance, rows + [(bag, run or [])])

    def compare(self, book, most, chance):
        """Compares the judge on the base, as far as two others go, and with slips; returns the words."""
        plain = Naive(book)
        given = plain.closed(1, most)
        if len(given) > most:
            return {"many"}
        rows, words = self.least(plain, given, 2), set()
        things = [rows] + [self.slipped(chance, plain, given, rows) for _ in range(8 if rows else 0)]
        for thing in things:
            bags, runs = [bag for bag, _ in thing], [run for _, run in thing]
            fault = plain.base_fault(bags, runs)
            self.assertEqual(base_fault(book, bags, runs, most=len(given)), fault)
            words.add(fault and fault[0])
        with self.assertRaises(TooMany):
            base_fault(book, bags, runs, most=len(given) - 1)
        return words

    def test_books_by_chance(self):
        words, chance = set(), Chance(4)
        for seed in range(60):
            words |= self.compare(chance_book(seed), 30, chance)
        self.assertEqual(words, {"many", None, "fits", "run", "part", "lack"})

    def test_books_that_are_nearly_right(self):
        words, chance = set(), Chance(5)
        for seed in range(12):
            words |= self.compare(near_book(seed, example_parts()), 45, chance)
        for seed in (2, 6):
            words |= self.compare(near_book(seed, shared_parts()), 50, chance)
        words |= self.compare(right_by_two(), 30, chance)
        self.assertEqual(words, {"many", None, "fits", "run", "part", "lack"})

    def test_harm(self):
        lengths, chance = set(), Chance(6)
        for seed in range(25):
            for book in (chance_book(seed), near_book(seed, example_parts())):
                plain = Naive(book)
                given = plain.closed(1, 40)
                if len(given) <= 40:
                    for _ in range(4):
                        lengths.add(self.harms(plain, chance.one_of(plain.fitting(given, 3))))
        self.assertLessEqual({None, 0, 1, 2}, lengths)

    def harms(self, plain, bag):
        """Compares the length of a shortest run, and the bound at its edge; returns the length."""
        steps, many = plain.harm(bag, 60)
        if steps == "many":
            return steps
        run = harm(plain.book, bag, most=max(many, 1))
        self.assertEqual(None if run is None else len(run), steps)
        if run is not None:
            self.assertTrue(plain.harms(bag, run))
        if many > 1:
            with self.assertRaises(TooMany):
                harm(plain.book, bag, most=many - 1)
        return steps


if __name__ == "__main__":
    unittest.main()
