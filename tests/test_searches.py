"""Points [17] to [19]: counts of classes, shortest runs, and the judge of runs."""

import itertools
import unittest

from copybooks.errors import NoKinds, NoMany, NoMost, TooMany
from copybooks.moments import first, played
from copybooks.searches import fewest, reached, run_fault, shortest
from tests.samples import example, example_parts, nested, odd_values
from tests.test_moments import RUN, no_steps
from tests.test_steps import kit, task

KINDS = ("stale", "jam", "deaf")

CHOICES = [kinds for many in (1, 2, 3) for kinds in itertools.permutations(KINDS, many)]

NO_MANY = [0, 7, -1, True, False, None, "1", [1], (1,), 10 ** 30, {}, nested(1, 30), example()]

NO_MOST = [0, 20001, -1, True, False, None, "1", [1], (1,), 10 ** 30, {}, nested(1, 30), example()]

NO_KINDS = [
    (), None, "stale", ["stale"], ["stale", "jam"], ("stale", "stale"), ("stale", "jam", "stale"), ("Stale",),
    ("stale", "jams"), ("stale", "jam", "deaf", "deaf"), ("stale", "jam", "deaf", "good"), (None,), (True,), 1, True,
    {"stale": 1}, (("stale",),), ("",), (["stale"],), ("stale", None), nested("stale", 30), (nested("stale", 31),),
    example(), (example(),), ("jam", 0), "jam", {}, [],
]


def wrong_kinds(book, run, n):
    return {wrong[0] for wrong in played(first(book, n), run).wrongs()}


def three_ways():
    """A book in which stale takes one step, a jam two, and deaf three; deaf takes two caches."""
    return kit(
        ups=[("want", False), ("hand", False), ("drop", False)],
        wishes=[("no", "has", None), ("no", "ask", "want"), ("ask", "keep", "hand"), ("keep", "keep", "hand")],
        tasks=[task("take", calls=[("boss", None), ("has", None), ("boss", None)], quiet=["out"])],
        idles=[("out", "want", "out", None, False), ("out", "hand", "take")])


class TestReached(unittest.TestCase):

    def test_example(self):
        # Each further cache only adds those moments in which it asks, or asks and is served, beside an owner.
        self.assertEqual(reached(example(), 1), 6)
        self.assertEqual([reached(example(), n) for n in range(2, 7)], [18, 30, 42, 54, 66])

    def test_classes_not_moments(self):
        book = kit(wishes=[("no", "ask", None)])
        self.assertEqual([reached(book, n) for n in range(1, 7)], [2, 3, 4, 5, 6, 7])
        book = kit(wishes=[("no", "ask", None), ("ask", "keep", None)])
        self.assertEqual([reached(book, n) for n in range(1, 7)], [3, 6, 10, 15, 21, 28])

    def test_owner_and_asker_tell_caches_apart(self):
        tasks = [task("take", owner="asker", mark="out")]
        book = kit(wishes=[("no", "ask", "want"), ("ask", "no", None)], idles=[("out", "want", "take")], tasks=tasks)
        # One cache: with or without the letter, in no or in ask, and the owner or not, or the asker.
        self.assertEqual(reached(book, 1, most=200), self.count(book, 1))
        self.assertEqual(reached(book, 2, most=200), self.count(book, 2))
        self.assertEqual(reached(book, 3, most=2000), self.count(book, 3))

    def count(self, book, n):
        """The number of classes by renaming each moment in every way."""
        rows = [first(book, n)]
        met = {self.least(rows[0])}
        while rows:
            now = rows.pop()
            for step in now.steps():
                key = self.least(now.after(step))
                if key not in met:
                    met.add(key)
                    rows.append(now.after(step))
        return len(met)

    def least(self, moment):
        book_task, memory, owner, asker = moment.home()
        rows = [(local, at == owner, at == asker) for at, local in enumerate(moment.caches())]
        return (str(book_task), memory, min(itertools.permutations(rows)))

    def test_only_the_first_moment(self):
        for n in range(1, 7):
            self.assertEqual(reached(kit(), n, most=1), 1)

    def test_steps_go_on_behind_what_is_wrong(self):
        book = kit(wishes=[("no", "has", None), ("has", "ask", None)])
        self.assertEqual(reached(book, 1), 3)

    def test_exactly_most_and_one_less(self):
        for n, many in ((1, 6), (2, 18), (6, 66)):
            self.assertEqual(reached(example(), n, most=many), many)
            for most in (many - 1, 1):
                with self.assertRaises(TooMany) as caught:
                    reached(example(), n, most=most)
                self.assertEqual(caught.exception.most, most)

    def big(self, many):
        """A book with so many classes for one cache, some 4 to the power of n for n caches."""
        states = [("no", ""), ("a", ""), ("b", ""), ("c", ""), ("d", "")]
        ups = [(name, False) for name in ("u", "v", "w", "x", "y")]
        wishes = [("no", "no", name) for name, _ in ups[:many]]
        return kit(states=states, ups=ups, wishes=wishes)

    def test_the_bound_is_3000(self):
        self.assertEqual(reached(self.big(5), 1), 32)
        self.assertEqual(reached(self.big(4), 3), 816)
        self.assertEqual(reached(self.big(3), 6), 1716)
        self.assertEqual(reached(self.big(4), 4, most=3876), 3876)
        with self.assertRaises(TooMany) as caught:
            reached(self.big(4), 4)
        self.assertEqual(caught.exception.most, 3000)
        self.assertEqual(reached(self.big(4), 5, most=20000), 15504)
        with self.assertRaises(TooMany) as caught:
            reached(self.big(4), 6, most=20000)
        self.assertEqual(caught.exception.most, 20000)

    def test_arguments_from_left_to_right(self):
        for n in NO_MANY:
            for most in (3000, 0):
                with self.assertRaises(NoMany):
                    reached(example(), n, most=most)
        for most in NO_MOST:
            with self.assertRaises(NoMost):
                reached(example(), 1, most=most)


class TestShortest(unittest.TestCase):

    def check(self, book, n, kinds, many):
        run = shortest(book, n, kinds=kinds)
        if many is None:
            self.assertIsNone(run)
            return
        self.assertIs(type(run), list)
        self.assertEqual(len(run), many)
        self.assertIsNone(run_fault(book, n, run, kinds=kinds))
        self.assertTrue(wrong_kinds(book, run, n) & set(kinds))

    def test_nothing_wrong(self):
        for n in range(1, 7):
            for kinds in CHOICES:
                self.check(example(), n, kinds, None)
            self.assertIsNone(shortest(example(), n))

    def test_each_choice_of_kinds_in_any_order(self):
        lengths = {"stale": 1, "jam": 2, "deaf": 3}
        for kinds in CHOICES:
            for n in (2, 3):
                self.check(three_ways(), n, kinds, min(lengths[kind] for kind in kinds))
        for kinds in CHOICES:
            many = [lengths[kind] for kind in kinds if kind != "deaf"]
            self.check(three_ways(), 1, kinds, min(many) if many else None)

    def test_all_kinds_if_none_are_told(self):
        stale = kit(wishes=[("no", "has", None)])
        jam = kit(wishes=[("no", "no", "want")])
        deaf = example(answers=example_parts()["answers"][:1])
        for book, kind in ((stale, "stale"), (jam, "jam"), (deaf, "deaf")):
            run = shortest(book, 2)
            self.assertEqual(wrong_kinds(book, run, 2), {kind})
            for other in KINDS:
                if other != kind:
                    self.assertIsNone(shortest(book, 2, kinds=(other,)))
        self.assertEqual(shortest(jam, 1), [("wish", 0, 0)])
        self.assertEqual(len(shortest(deaf, 2)), 5)

    def test_a_run_may_go_by_what_is_wrong_of_other_kinds(self):
        book = kit(wishes=[("no", "has", None), ("has", "ask", "want"), ("ask", "ask", "want")])
        self.assertEqual(shortest(book, 1, kinds=("jam",)), [("wish", 0, 0), ("wish", 0, 1)])
        self.assertEqual(shortest(book, 1, kinds=("jam", "stale")), [("wish", 0, 0)])

    def test_the_example_made_wrong(self):
        early = example(tasks=[("take", [("out", None), ("boss", "yield")], ["out", "boss"], ["out", "out"], "boss",
                                "give", "asker")])
        run = shortest(early, 2, kinds=("stale",))
        self.assertIsNone(run_fault(early, 2, run, kinds=("stale",)))
        self.assertIsNone(shortest(early, 1, kinds=("stale",)))

    def test_jams_of_calls_ends_and_replies(self):
        calls = [("out", "give"), ("out", None), ("out", None)]
        called = kit(wishes=[("no", "ask", "want")], idles=[("out", "want", "take")], tasks=[task("take", calls=calls)])
        self.check(called, 1, ("jam",), None)
        # A second asker calls the caches that the first one has called.
        self.check(called, 3, ("jam",), 4)
        ended = kit(wishes=[("no", "ask", "want"), ("ask", "keep", "hand")], tasks=[task("take", down="give", mark="out")],
                    idles=[("out", "want", "take"), ("out", "hand", "take")])
        self.check(ended, 1, ("jam",), 5)
        replied = kit(wishes=[("no", "ask", "want"), ("ask", "keep", "hand")],
                      idles=[("out", "want", "out", "give", False), ("out", "hand", "out", "give", False)])
        self.check(replied, 1, ("jam",), 3)

    def test_letters_of_the_asker_do_not_jam(self):
        # Home would reply to the asker's hand with a second give, if it took letters of the asker.
        book = kit(ups=[("want", False), ("hand", True), ("drop", False)],
                   wishes=[("no", "ask", "drop"), ("ask", "keep", "want"), ("keep", "own", "hand")],
                   idles=[("out", "drop", "out", "give", False), ("out", "want", "take")],
                   tasks=[task("take", quiet=["boss"])], busies=[("take", "out", "hand", "out", "give", False)])
        self.check(book, 1, ("jam",), None)
        self.check(book, 2, ("jam",), 7)
        run = [("wish", 0, 0), ("take", 0, "drop"), ("wish", 0, 1), ("take", 0, "want"), ("wish", 0, 2)]
        self.assertEqual(run_fault(book, 2, run, kinds=("jam",)), ("good",))

    def test_too_many_exactly_at_its_edge(self):
        # With three caches there are 1, 2, 3 .. classes by 0, 1, 2 .. steps: how many of them want.
        book = kit(states=[("no", ""), ("ask", ""), ("keep", "")],
                   wishes=[("no", "ask", "hand"), ("ask", "keep", "want"), ("keep", "no", "want")])
        run = shortest(book, 3)
        self.assertEqual(len(run), 2)
        self.assertEqual(shortest(book, 3, most=2), run)
        with self.assertRaises(TooMany) as caught:
            shortest(book, 3, most=1)
        self.assertEqual(caught.exception.most, 1)

    def test_too_many_counts_all_if_there_is_no_answer(self):
        for n, many in ((1, 6), (2, 18), (3, 30)):
            self.assertIsNone(shortest(example(), n, most=many))
            for most in (many - 1, 1, 2, 5):
                with self.assertRaises(TooMany) as caught:
                    shortest(example(), n, most=most)
                self.assertEqual(caught.exception.most, most)

    def test_an_answer_of_one_step_needs_one_class(self):
        for n in range(1, 7):
            self.assertEqual(len(shortest(kit(wishes=[("no", "ask", None), ("no", "has", None)]), n, most=1)), 1)
            self.assertIsNone(shortest(kit(), n, most=1))

    def test_the_layer_of_the_answer_may_be_greater_than_most(self):
        wishes = [("no", name, None) for name in ("ask", "own", "keep", "no")] + [("no", "no", "want"), ("no", "has", None)]
        self.assertEqual(shortest(kit(wishes=wishes), 1, kinds=("jam",), most=1), [("wish", 0, 4)])

    def test_arguments_from_left_to_right(self):
        for n in NO_MANY:
            for kinds, most in ((KINDS, 3000), ((), 0)):
                with self.assertRaises(NoMany):
                    shortest(example(), n, kinds=kinds, most=most)
        for kinds in NO_KINDS:
            for most in (3000, 0):
                with self.assertRaises(NoKinds):
                    shortest(example(), 1, kinds=kinds, most=most)
        for most in NO_MOST:
            with self.assertRaises(NoMost):
                shortest(example(), 1, most=most)
        with self.assertRaises(TooMany):
            shortest(example(), 1, most=1)

    def test_the_returned_list_is_new(self):
        book = kit(wishes=[("no", "has", None)])
        shortest(book, 1).clear()
        self.assertEqual(shortest(book, 1), [("wish", 0, 0)])


class TestFewest(unittest.TestCase):

    def test_none(self):
        for caches in range(1, 7):
            self.assertIsNone(fewest(example(), caches=caches))

    def test_the_first_number_with_a_run(self):
        self.assertEqual(fewest(kit(wishes=[("no", "has", None)])), (1, [("wish", 0, 0)]))
        n, run = fewest(three_ways(), kinds=("deaf",))
        self.assertEqual((n, len(run)), (2, 3))
        self.assertIsNone(run_fault(three_ways(), 2, run, kinds=("deaf",)))
        self.assertIsNone(fewest(three_ways(), kinds=("deaf",), caches=1))
        self.assertEqual(fewest(three_ways(), kinds=("deaf", "jam"))[0], 1)

    def calls(self):
        calls = [("has", "give"), ("has", None), ("out", None)]
        return kit(wishes=[("no", "ask", "want"), ("ask", "keep", "hand")], idles=[("out", "want", "take")],
                   tasks=[task("take", calls=calls, quiet=["out", "has"], ends=["out", "out", "boss"])])

    def test_three_caches(self):
        n, run = fewest(self.calls())
        self.assertEqual((n, len(run)), (3, 4))
        self.assertIsNone(run_fault(self.calls(), 3, run))
        self.assertIsNone(fewest(self.calls(), caches=2))
        self.assertEqual(fewest(self.calls(), caches=6), (n, run))

    def test_too_many_of_the_first_search_that_raises_it(self):
        self.assertIsNone(fewest(example(), caches=2, most=18))
        self.assertIsNone(fewest(example(), caches=1, most=6))
        for caches, most in ((2, 17), (3, 18), (6, 29), (1, 5)):
            with self.assertRaises(TooMany) as caught:
                fewest(example(), caches=caches, most=most)
            self.assertEqual(caught.exception.most, most)
        deaf = example(answers=example_parts()["answers"][:1])
        self.assertEqual(fewest(deaf, caches=6, most=20)[0], 2)

    def test_three_caches_if_none_are_told(self):
        self.assertIsNone(fewest(example(), most=30))
        with self.assertRaises(TooMany):
            fewest(example(), most=29)
        with self.assertRaises(TooMany):
            fewest(example(), most=30, caches=4)

    def test_arguments_from_left_to_right(self):
        for kinds in NO_KINDS:
            for caches, most in ((3, 3000), (0, 0)):
                with self.assertRaises(NoKinds):
                    fewest(example(), kinds=kinds, caches=caches, most=most)
        for caches in NO_MANY:
            for most in (3000, 0):
                with self.assertRaises(NoMany):
                    fewest(example(), caches=caches, most=most)
        for most in NO_MOST:
            with self.assertRaises(NoMost):
                fewest(example(), most=most)


class TestRunFault(unittest.TestCase):

    def test_form(self):
        for thing in odd_values() + [tuple(RUN), ("end",), "end", {0: ("wish", 0, 0)}]:
            if not isinstance(thing, list):
                self.assertEqual(run_fault(example(), 1, thing), ("form",))

    def test_good(self):
        for many in range(len(RUN) + 1):
            self.assertEqual(run_fault(example(), 2, RUN[:many]), ("good",))
        self.assertEqual(run_fault(three_ways(), 1, [("wish", 0, 0)], kinds=("jam", "deaf")), ("good",))

    def test_none(self):
        self.assertIsNone(run_fault(three_ways(), 1, [("wish", 0, 0)]))
        self.assertIsNone(run_fault(three_ways(), 2, [("wish", 1, 0)], kinds=("deaf", "stale")))

    def test_longer_runs_need_not_be_shortest(self):
        run = [("wish", 0, 1), ("take", 0, "want"), ("wish", 1, 0)]
        self.assertIsNone(run_fault(three_ways(), 2, run))

    def test_step(self):
        for value in no_steps():
            for many in (0, 1, 4):
                thing = RUN[:many] + [value, None]
                self.assertEqual(run_fault(example(), 2, thing), ("step", many))
        self.assertEqual(run_fault(example(), 2, [("wish", 0, 0), ("wish", 0, 0)]), ("step", 1))
        self.assertEqual(run_fault(example(), 1, [("wish", 1, 0)]), ("step", 0))
        self.assertEqual(run_fault(kit(wishes=[("no", "no", "want")]), 1, [("wish", 0, 0)] * 2, kinds=("deaf",)),
                         ("step", 1))

    def test_early(self):
        book = three_ways()
        self.assertEqual(run_fault(book, 2, [("wish", 0, 0), ("wish", 1, 0)]), ("early", 1))
        self.assertEqual(run_fault(book, 2, [("wish", 0, 1), ("wish", 0, 2), ("wish", 1, 0), ("end",)]), ("early", 2))
        for kinds in (("stale",), ("deaf", "stale")):
            self.assertEqual(run_fault(book, 2, [("wish", 0, 1), ("wish", 1, 0), ("wish", 0, 2)], kinds=kinds), ("early", 2))
        self.assertIsNone(run_fault(book, 2, [("wish", 0, 1), ("wish", 1, 0), ("take", 0, "want"), ("wish", 0, 2)],
                                    kinds=("jam",)))

    def test_early_goes_ahead_of_step_of_the_same_index(self):
        self.assertEqual(run_fault(three_ways(), 1, [("wish", 0, 0), None]), ("early", 1))
        self.assertEqual(run_fault(three_ways(), 1, [("wish", 0, 0), ("wish", 0, 0)]), ("early", 1))
        self.assertEqual(run_fault(three_ways(), 1, [("wish", 0, 0), None], kinds=("jam",)), ("step", 1))

    def test_the_least_index_goes_first(self):
        self.assertEqual(run_fault(three_ways(), 2, [None, ("wish", 0, 0), ("wish", 1, 0)]), ("step", 0))
        self.assertEqual(run_fault(three_ways(), 2, [("wish", 0, 0), ("wish", 1, 0), None]), ("early", 1))
        self.assertEqual(run_fault(three_ways(), 2, [("wish", 0, 1), None, None]), ("step", 1))

    def test_the_empty_run(self):
        for n in range(1, 7):
            self.assertEqual(run_fault(three_ways(), n, []), ("good",))

    def test_arguments_from_left_to_right(self):
        for n in NO_MANY:
            for kinds in (KINDS, ()):
                with self.assertRaises(NoMany):
                    run_fault(example(), n, None, kinds=kinds)
        for kinds in NO_KINDS:
            for thing in (None, [], [None], RUN):
                with self.assertRaises(NoKinds):
                    run_fault(example(), 1, thing, kinds=kinds)

    def test_long_runs(self):
        run = RUN + [("put", 0)] * 195
        self.assertEqual(run_fault(example(), 6, run), ("good",))
        self.assertEqual(run_fault(example(), 6, run[:-1] + [("put", 1)]), ("step", 199))
        self.assertEqual(run, RUN + [("put", 0)] * 195)


if __name__ == "__main__":
    unittest.main()
