"""Point [25]: deciding for all numbers of caches."""

import unittest

from copybooks.deciding import decide
from copybooks.errors import NoMany, NoMost, TooMany, Undecided
from copybooks.searches import fewest, run_fault, shortest
from copybooks.viewjudge import closed_fault
from copybooks.views import views
from tests.samples import (
    called_twice, example, example_parts, full_parts, made, near_book, putting, renamed_parts, right_by_three,
    right_by_two, shared_parts, small, waiting_parts, wrong_by_five, wrong_by_four,
)
from tests.test_searches import NO_MANY, NO_MOST, three_ways
from tests.test_steps import kit


class DecideCase(unittest.TestCase):

    def right(self, book, k, **bounds):
        found = decide(book, **bounds)
        self.assertEqual((type(found), len(found), found[:2]), (tuple, 3, ("right", k)))
        self.assertIsNone(closed_fault(book, k, found[2]))
        self.assertEqual(sorted(found[2], key=str), sorted(views(book, k)[1], key=str))

    def wrong(self, book, n, many, **bounds):
        found = decide(book, **bounds)
        self.assertEqual((type(found), len(found), found[:2]), (tuple, 3, ("wrong", n)))
        self.assertIsNone(run_fault(book, n, found[2]))
        self.assertEqual(len(found[2]), many)

    def undecided(self, book, **bounds):
        with self.assertRaises(Undecided):
            decide(book, **bounds)


class TestRight(DecideCase):

    def test_by_views_of_1(self):
        for book in (example(), made(shared_parts()), small(), putting(), kit()):
            for caches in range(1, 7):
                self.right(book, 1, caches=caches)
            self.right(book, 1)

    def test_by_views_of_2(self):
        for caches in (1, 3, 6):
            self.right(right_by_two(), 2, caches=caches)

    def test_by_views_of_3(self):
        for caches in (1, 3, 4):
            self.right(right_by_three(), 3, caches=caches)

    def test_views_of_1_are_asked_ahead_of_runs(self):
        # One cache alone comes to more than so many classes; the views are few enough.
        self.right(small(), 1, most=2)
        self.right(example(), 1, most=36)
        self.assertEqual(fewest(example(), caches=3, most=36), None)


class TestWrong(DecideCase):

    def test_one_cache(self):
        self.wrong(kit(wishes=[("no", "has", None)]), 1, 1)
        self.wrong(three_ways(), 1, 1)
        self.wrong(kit(wishes=[("no", "no", "want")]), 1, 1)

    def test_fewest_caches(self):
        for caches in (2, 3, 6):
            self.wrong(called_twice(), 2, len(shortest(called_twice(), 2)), caches=caches)
        self.wrong(wrong_by_four(), 4, len(shortest(wrong_by_four(), 4)), caches=4)
        self.wrong(wrong_by_four(), 4, len(shortest(wrong_by_four(), 4)), caches=6)
        self.wrong(wrong_by_five(), 5, len(shortest(wrong_by_five(), 5)), caches=5)

    def test_more_caches_than_are_asked(self):
        for caches in (1, 2, 3):
            self.undecided(wrong_by_four(), caches=caches)
            self.undecided(wrong_by_five(), caches=caches)
        self.undecided(wrong_by_four())
        self.undecided(wrong_by_five(), caches=4)
        self.undecided(called_twice(), caches=1)

    def test_three_caches_if_none_are_told(self):
        book = near_book(25, shared_parts())
        self.wrong(book, 3, len(shortest(book, 3)))
        self.undecided(book, caches=2)

    def test_what_is_wrong_is_never_right(self):
        for seed in range(60):
            for parts in (example_parts(), shared_parts()):
                book = near_book(seed, parts)
                found = decide(book)
                if found[0] == "wrong":
                    self.assertIsNone(run_fault(book, found[1], found[2]))
                    self.assertEqual(found[1:], fewest(book))
                else:
                    self.assertIsNone(closed_fault(book, found[1], found[2]))
                    self.assertIsNone(fewest(book, caches=4))


class TestBounds(DecideCase):

    def test_too_many_views_are_like_bad_ones(self):
        # 27 views of 1, which are bad, and 26 of 2; up to three caches come to 16 classes.
        with self.assertRaises(TooMany):
            views(right_by_two(), 1, most=26)
        self.right(right_by_two(), 2, most=26)
        self.right(right_by_two(), 2, most=27)
        self.undecided(right_by_two(), most=25)

    def test_too_many_views_of_1_of_a_right_book(self):
        self.right(example(), 1, most=36)
        for most in (1, 5, 17, 18, 35):
            self.undecided(example(), most=most)

    def test_views_of_3_at_the_edge(self):
        self.right(right_by_three(), 3, most=148)
        self.undecided(right_by_three(), most=147)

    def test_too_many_classes_end_the_asking_for_runs(self):
        # With one cache there is no run, and there are six classes; with two there is one, within fewer.
        book = example(answers=example_parts()["answers"][:1])
        run = shortest(book, 2)
        self.assertEqual([most for most in range(1, 40) if self.searched(book, 1, most)][0], 6)
        self.assertLessEqual([most for most in range(1, 40) if self.searched(book, 2, most)][0], 20)
        self.wrong(book, 2, len(run), most=20)
        self.undecided(book, most=5)

    def searched(self, book, n, most):
        try:
            shortest(book, n, most=most)
        except TooMany:
            return False
        return True

    def test_fewer_classes_with_more_caches_are_not_asked(self):
        # One cache may go to many states; two do harm by their first steps.
        tasks = [("s", "bb", "a", "ab", "a")]
        parts = waiting_parts("ab", tasks, [("a", "s")])
        parts["states"] += [("walk", ""), ("run", ""), ("stand", "")]
        parts["wishes"] += [("no", "walk", None), ("walk", "run", None), ("run", "stand", None)]
        book = made(parts)
        self.assertTrue(self.searched(book, 2, 6))
        self.assertFalse(self.searched(book, 1, 6))
        self.undecided(book, most=6)
        self.wrong(book, 2, 2, most=30)

    def test_too_many_classes_and_then_views_of_2(self):
        # A wish that comes to nothing makes many classes of few views.
        parts = waiting_parts("abcde", [("s", "bdeeb", "be", "abcdc", "d")], [("a", "s"), ("c", "s"), ("e", "s")])
        book = made(parts)
        most = len(views(book, 2)[1])
        with self.assertRaises(TooMany):
            shortest(book, 6, most=most)
        self.right(book, 2, caches=6, most=most)

    def test_the_bound_is_3000(self):
        for book in (made(full_parts()), called_twice()):
            self.assertEqual(decide(book), decide(book, caches=3, most=3000))

    def test_undecided_with_small_bounds(self):
        for book in (right_by_two(), right_by_three(), wrong_by_four(), made(shared_parts())):
            self.undecided(book, most=1)


class TestNames(DecideCase):

    def test_other_names_in_the_same_places(self):
        for parts in (example_parts, shared_parts, full_parts):
            self.assertEqual(decide(made(renamed_parts(parts())))[:2], decide(made(parts()))[:2])
        tasks = [("s", "bcdac", "bcde", "abcde", "c"), ("t", "abade", "abc", "ebada", "e")]
        parts = waiting_parts("abcde", tasks, [("a", "s"), ("b", "s"), ("d", "t")])
        self.assertEqual(made(parts), right_by_three())
        self.right(made(renamed_parts(parts)), 3)


class TestArguments(unittest.TestCase):

    def test_from_left_to_right(self):
        for caches in NO_MANY:
            for most in (3000, 0, None):
                with self.assertRaises(NoMany):
                    decide(example(), caches=caches, most=most)
        for most in NO_MOST:
            for caches in (1, 3, 6):
                with self.assertRaises(NoMost):
                    decide(example(), caches=caches, most=most)
            with self.assertRaises(NoMost):
                decide(example(), most=most)

    def test_what_is_returned_is_new(self):
        decide(example())[2].clear()
        self.assertEqual(len(decide(example())[2]), 36)
        decide(called_twice())[2].clear()
        self.assertEqual(decide(called_twice())[2], shortest(called_twice(), 2))


if __name__ == "__main__":
    unittest.main()
