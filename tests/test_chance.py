"""Points [10] to [19] on books made by chance, compared with a second, plain writing of the steps."""

import itertools
import unittest

from copybooks.errors import NoStep, TooMany
from copybooks.moments import first
from copybooks.searches import reached, run_fault, shortest
from tests import naive
from tests.samples import Chance, chance_book, example_parts, made, near_book, shared_parts

KINDS = ("stale", "jam", "deaf")

CHOICES = [kinds for many in (1, 2, 3) for kinds in itertools.permutations(KINDS, many)]


class TestWalks(unittest.TestCase):

    def walk(self, book, seed, n, many):
        """Compares all that a moment tells along a walk; returns the words of the steps and wrongs met."""
        chance = Chance(seed + 1000)
        world, moment, words = naive.first_world(book, n), first(book, n), set()
        for _ in range(many):
            self.assertEqual((moment.home(), moment.caches()), naive.told(book, world))
            moves = naive.moves(book, world)
            self.assertEqual(moment.steps(), [step for step, _ in moves])
            wrongs = naive.wrongs(book, world)
            self.assertEqual(moment.wrongs(), wrongs)
            for step in naive.all_steps(book, n):
                if step not in moment.steps():
                    with self.assertRaises(NoStep):
                        moment.after(step)
            words |= {wrong[1][0] + " jams" if wrong[0] == "jam" else wrong[0] for wrong in wrongs}
            if not moves:
                break
            step, world = chance.one_of(moves)
            moment = moment.after(step)
            words.add(step[0])
        return words

    def test_walks(self):
        words = set()
        for seed in range(60):
            for n in (1, 2, 3):
                words |= self.walk(chance_book(seed), seed, n, 20)
        self.assertEqual(words, {"wish", "answer", "take", "put", "end", "stale", "deaf", "wish jams", "answer jams",
                                 "take jams", "end jams"})

    def test_many_caches(self):
        for seed in range(100, 110):
            for n in (4, 5, 6):
                self.walk(chance_book(seed), seed, n, 12)

    def test_books_that_are_nearly_right(self):
        words = set()
        for seed in range(30):
            words |= self.walk(near_book(seed, shared_parts()), seed, 3, 30)
        self.assertEqual(words & {"stale", "deaf", "end"}, {"stale", "deaf", "end"})


class TestSearches(unittest.TestCase):

    def compare_reached(self, book, n, layers, most):
        many = sum(len(layer) for layer in layers)
        if many > most:
            with self.assertRaises(TooMany):
                reached(book, n, most=most)
            return
        self.assertEqual(reached(book, n, most=many), many)
        if many > 1:
            with self.assertRaises(TooMany):
                reached(book, n, most=many - 1)

    def compare_shortest(self, book, n, layers, words, most, kinds):
        """Compares the length of the answer, and the bound at its edge; False if there is no telling."""
        wrong = [bool(found & set(kinds)) for found in words]
        if True not in wrong and sum(len(layer) for layer in layers) > most:
            return False
        length = wrong.index(True) if True in wrong else None
        before = sum(len(layer) for layer in layers[:length])
        run = shortest(book, n, kinds=kinds, most=before)
        self.assertEqual(None if run is None else len(run), length)
        if run is not None:
            self.assertIsNone(run_fault(book, n, run, kinds=kinds))
        if before > 1:
            with self.assertRaises(TooMany) as caught:
                shortest(book, n, kinds=kinds, most=before - 1)
            self.assertEqual(caught.exception.most, before - 1)
        return True

    def compare(self, book, n, most):
        """Compares both searches; returns how many answers there were to compare."""
        layers = naive.layers(book, n, most)
        self.compare_reached(book, n, layers, most)
        wrong = [{what[0] for world in layer for what in naive.wrongs(book, world)} for layer in layers]
        return sum([self.compare_shortest(book, n, layers, wrong, most, kinds) for kinds in CHOICES])

    def test_books_by_chance(self):
        many = sum([self.compare(chance_book(seed), n, 50) for seed in range(25) for n in (1, 2, 3)])
        self.assertGreater(many, 500)

    def test_books_that_are_nearly_right(self):
        many = sum([self.compare(near_book(seed, example_parts()), 2 + seed // 2 % 2, 80) for seed in range(20)])
        many += sum([self.compare(near_book(seed, shared_parts()), 2, 120) for seed in range(30)])
        self.assertGreater(many, 500)

    def test_a_right_book(self):
        book = made(shared_parts())
        layers = naive.layers(book, 2, 100)
        self.assertEqual([len(layer) for layer in layers][:3], [1, 2, 5])
        self.assertEqual(sum(len(layer) for layer in layers), 51)
        self.assertEqual(reached(book, 2), 51)
        for n in range(1, 5):
            self.assertIsNone(shortest(book, n))


if __name__ == "__main__":
    unittest.main()
