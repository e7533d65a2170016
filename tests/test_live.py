"""Point [32]: live worlds."""

import unittest

from copybooks.errors import CopyError, NoBack, NoCache, NoIndex, NoMany, NoRest, NoStep, TooMany
from copybooks.live import Live
from copybooks.moments import Moment, first, played
from copybooks.resting import can_rest
from copybooks.searches import shortest
from tests.samples import Chance, chance_book, example, example_parts, made, near_book, nested, odd_values, putting, shared_parts
from tests.test_halls import HANDED, OWNED
from tests.test_moments import no_steps, steps_of_no_moment
from tests.test_resting import bouncing
from tests.test_searches import NO_MANY
from tests.test_steps import kit


class Odd(Exception):
    """An error of nobody's."""


def told(live):
    """All that a live world tells of itself."""
    steps = [step for step in live]
    assert steps == [live[index] for index in range(len(live))]
    return (live.moment(), steps, len(live), live.wrongs())


def led(book, n, run):
    live = Live(book, n)
    for step in run:
        live.step(step)
    return live


class TestLive(unittest.TestCase):

    def test_at_first(self):
        for n in range(1, 7):
            live = Live(example(), n)
            self.assertEqual(live.moment(), first(example(), n))
            self.assertEqual(told(live), (first(example(), n), [], 0, []))

    def test_steps(self):
        live = Live(example(), 2)
        for at, step in enumerate(OWNED + HANDED):
            self.assertIsNone(live.step(step))
            self.assertEqual(len(live), at + 1)
            self.assertEqual(live[at], step)
        self.assertIsInstance(live.moment(), Moment)
        self.assertEqual(live.moment(), played(first(example(), 2), OWNED + HANDED))
        self.assertEqual(list(live), OWNED + HANDED)

    def test_back(self):
        live = led(example(), 2, OWNED + HANDED)
        for many in range(len(OWNED + HANDED) - 1, -1, -1):
            self.assertIsNone(live.back())
            self.assertEqual(told(live)[:3], (played(first(example(), 2), (OWNED + HANDED)[:many]), (OWNED + HANDED)[:many], many))
        for _ in range(2):
            with self.assertRaises(NoBack):
                live.back()
        self.assertEqual(told(live), (first(example(), 2), [], 0, []))
        live.step(OWNED[0])
        self.assertEqual(list(live), OWNED[:1])

    def test_wrongs(self):
        for book in (kit(wishes=[("no", "has", None)]), kit(wishes=[("no", "no", "want")])):
            live = Live(book, 2)
            self.assertEqual(live.wrongs(), [])
            live.step(("wish", 1, 0))
            self.assertEqual(live.wrongs(), live.moment().wrongs())
            self.assertTrue(live.wrongs())
            live.wrongs().clear()
            self.assertTrue(live.wrongs())
            live.back()
            self.assertEqual(live.wrongs(), [])

    def test_no_steps(self):
        live = led(example(), 2, OWNED)
        before = told(live)
        for step in no_steps() + steps_of_no_moment() + [("end",), ("wish", 0, 0), ("put", 1), ("take", 0, "want")]:
            with self.assertRaises(NoStep):
                live.step(step)
        self.assertEqual(told(live), before)
        live = led(kit(wishes=[("no", "no", "want")]), 1, [("wish", 0, 0)])
        with self.assertRaises(NoStep):
            live.step(("wish", 0, 0))

    def test_indexes(self):
        live = led(example(), 2, OWNED)
        for index in [4, 5, -1, -4, True, False, None, "0", 10 ** 30, (0,), [0], {}, slice(0, 2), nested(0, 30), example(), live]:
            with self.assertRaises(NoIndex):
                live[index]
        with self.assertRaises(NoIndex):
            Live(example(), 2)[0]
        self.assertEqual([live[index] for index in range(4)], OWNED)

    def test_several_loops_at_once(self):
        live = led(example(), 2, OWNED)
        self.assertEqual([(one, other) for one in live for other in live], [(one, other) for one in OWNED for other in OWNED])
        self.assertEqual(list(zip(live, live)), list(zip(OWNED, OWNED)))
        one, other = iter(live), iter(live)
        self.assertEqual([next(one), next(one), next(other), next(one)], [OWNED[0], OWNED[1], OWNED[0], OWNED[2]])
        self.assertEqual([step for step in Live(example(), 1)], [])
        for step in live:
            if step == OWNED[1]:
                break
        self.assertEqual(list(live), OWNED)

    def test_the_book_and_what_is_returned_are_not_shared(self):
        book = example()
        live = led(book, 2, OWNED)
        live.moment().caches().clear()
        live.moment().steps().clear()
        self.assertEqual(live.moment(), played(first(book, 2), OWNED))

    def test_a_long_life(self):
        live = Live(putting(), 3)
        run = [("wish", i % 3, at) for i in range(500) for at in (0, 1)]
        for step in run:
            live.step(step)
        self.assertEqual((len(live), list(live)), (1000, run))
        for _ in range(1000):
            live.back()
        self.assertEqual(live.moment(), first(putting(), 3))

    def test_many(self):
        for n in NO_MANY:
            with self.assertRaises(NoMany):
                Live(example(), n)


class TestRest(unittest.TestCase):

    def test_led_to_rest(self):
        live = Live(example(), 2)
        live.step(("wish", 1, 0))
        found = live.rest(1)
        self.assertEqual(found, [("take", 1, "want"), ("end",), ("answer", 1, "give")])
        self.assertEqual(list(live), [("wish", 1, 0)] + found)
        self.assertEqual(live.moment().caches()[1][0], "own")
        found.clear()
        self.assertEqual(len(live), 4)
        # Each step is one of its own.
        live.back()
        self.assertEqual(live.rest(1), [("answer", 1, "give")])

    def test_rests_already(self):
        live = led(example(), 2, OWNED)
        for i in (0, 1):
            self.assertEqual(live.rest(i), [])
        self.assertEqual(list(live), OWNED)

    def test_no_rest(self):
        book = example(answers=example_parts()["answers"][:1])
        live = led(book, 2, OWNED + [("wish", 1, 0)])
        before = told(live)
        with self.assertRaises(NoRest):
            live.rest(1)
        self.assertEqual(told(live), before)
        self.assertEqual(live.rest(0), [])

    def test_too_many(self):
        live = led(bouncing(1), 6, [("wish", i, 0) for i in range(6)] + [("wish", i, at) for i in range(6) for at in range(1, 6)])
        live.step(("wish", 3, 6))
        before = told(live)
        with self.assertRaises(TooMany) as caught:
            live.rest(3)
        self.assertEqual(caught.exception.most, 3000)
        self.assertEqual(told(live), before)

    def test_caches(self):
        live = led(example(), 2, OWNED)
        for i in [2, 6, -1, True, False, None, "0", [0], (0,), {}, 10 ** 30, nested(0, 30), example()]:
            with self.assertRaises(NoCache):
                live.rest(i)

    def test_shortest_runs(self):
        for seed in range(12):
            for book in (chance_book(seed), near_book(seed, shared_parts()), made(shared_parts())):
                chance, live = Chance(seed), Live(book, 2)
                for _ in range(8):
                    steps = live.moment().steps()
                    if steps:
                        live.step(chance.one_of(steps))
                for i in (0, 1):
                    many, before = len(live), live.moment()
                    try:
                        run = can_rest(before, i)
                    except TooMany:
                        continue
                    if run is None:
                        with self.assertRaises(NoRest):
                            live.rest(i)
                        self.assertEqual(len(live), many)
                    else:
                        found = live.rest(i)
                        self.assertEqual(len(found), len(run))
                        self.assertEqual(list(live)[many:], found)
                        self.assertEqual(live.moment(), played(before, found))


class TestTried(unittest.TestCase):

    def setUp(self):
        self.live = led(example(), 2, OWNED)
        self.before = told(self.live)

    def same(self):
        self.assertEqual(told(self.live), self.before)

    def test_what_is_returned(self):
        for value in odd_values():
            self.assertIs(self.live.tried(lambda live: value), value)
        self.assertEqual(self.live.tried(len), 4)
        self.assertEqual(self.live.tried(list), OWNED)
        self.assertIs(self.live.tried(lambda live: live), self.live)
        self.same()

    def test_stepped_and_taken_back(self):
        def stepping(live):
            for step in HANDED:
                live.step(step)
            return (live.moment(), list(live), live[9])

        def going_back(live):
            while len(live):
                live.back()
            live.step(("wish", 1, 0))
            return list(live)

        self.assertEqual(self.live.tried(stepping), (played(first(example(), 2), OWNED + HANDED), OWNED + HANDED, HANDED[5]))
        self.same()
        self.assertEqual(self.live.tried(going_back), [("wish", 1, 0)])
        self.same()

    def test_rest_is_tried(self):
        self.live.step(("wish", 1, 0))
        self.assertEqual(len(self.live.tried(lambda live: live.rest(1))), 5)
        self.live.back()
        self.same()

    def test_errors_go_on(self):
        for error in (Odd("told"), KeyError("told"), NoBack(), TooMany(5), RecursionError("told")):
            def action(live):
                live.step(("put", 0))
                live.back()
                live.back()
                live.step(("answer", 0, "give"))
                live.step(("wish", 1, 0))
                raise error

            with self.assertRaises(type(error)) as caught:
                self.live.tried(action)
            self.assertIs(caught.exception, error)
            self.same()

    def test_errors_of_the_world_itself(self):
        def action(live):
            live.step(("put", 0))
            live.step(("end",))

        with self.assertRaises(NoStep):
            self.live.tried(action)
        self.same()

    def test_trials_within_trials(self):
        lengths = []

        def inner(live):
            live.back()
            live.back()
            lengths.append(len(live))
            return "inner"

        def failing(live):
            live.step(("wish", 1, 0))
            live.tried(inner)
            lengths.append(len(live))
            raise Odd()

        def outer(live):
            live.step(("put", 0))
            found = live.tried(inner)
            lengths.append(len(live))
            try:
                live.tried(failing)
            except Odd:
                lengths.append(len(live))
            live.step(("wish", 1, 0))
            lengths.append(len(live))
            return found

        self.assertEqual(self.live.tried(outer), "inner")
        self.assertEqual(lengths, [3, 5, 4, 6, 5, 6])
        self.same()

    def test_deep_trials(self):
        def deeper(many):
            def action(live):
                live.step(("put", 0))
                return len(live) if many == 0 else live.tried(deeper(many - 1))
            return action

        self.assertEqual(self.live.tried(deeper(40)), 45)
        self.same()

    def test_the_world_can_be_led_on_behind_a_trial(self):
        self.live.tried(lambda live: live.back())
        for step in HANDED:
            self.live.step(step)
        self.assertEqual(list(self.live), OWNED + HANDED)
        for _ in range(10):
            self.live.back()
        with self.assertRaises(NoBack):
            self.live.back()

    def test_loops_around_trials(self):
        met = []
        for step in self.live:
            self.live.tried(lambda live: live.step(("put", 0)))
            self.live.tried(lambda live: live.back())
            met.append(step)
        self.assertEqual(met, OWNED)

    def test_a_step_that_is_tried_ahead(self):
        # Which steps lead to something wrong is told by trying them.
        book = near_book(2, shared_parts())
        run = shortest(book, 2)
        live = led(book, 2, run[:-1])

        def wrong_behind(step):
            def action(world):
                world.step(step)
                return world.wrongs() != []
            return live.tried(action)

        steps = live.moment().steps()
        self.assertIn(True, [wrong_behind(step) for step in steps])
        self.assertEqual(list(live), run[:-1])

    def test_no_arguments_are_checked(self):
        self.assertTrue(issubclass(NoRest, CopyError))
        with self.assertRaises(Odd):
            self.live.tried(self.raising)
        self.same()

    def raising(self, live):
        live.back()
        raise Odd()


if __name__ == "__main__":
    unittest.main()
