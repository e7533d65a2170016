"""Points [33] and [34]: what stands beside what, and which items are needless or used."""

import itertools
import unittest

from copybooks.deciding import decide
from copybooks.errors import CopyError, NoMany, NoMost, NoPair, NotRight, TooMany
from copybooks.moments import first, played
from copybooks.resting import rests
from copybooks.searches import reached
from copybooks.tables import beside, beside_fault, beside_run, needless, used
from copybooks.views import views
from tests import naive
from tests.naive_views import naive_of, world_of
from tests.samples import (
    PARTS, both_become_others, called_twice, chance_book, example, example_parts, full_parts, made, near_book, nested, odd_values,
    putting, renamed_parts, right_by_three, right_by_two, shared_parts, small, told_by_calls, wrong_by_four,
)
from tests.test_bases import parts_of
from tests.test_halls import HANDED, OWNED
from tests.test_moments import no_steps
from tests.test_searches import NO_MANY, NO_MOST
from tests.test_steps import kit
from tests.test_views import all_moments

OPEN = ("wishes", "answers", "idles", "busies")


def loose_parts():
    """The parts of a fit book with items that never make a step, or without which it stays fit."""
    return {
        **example_parts(),
        "wishes": [("no", "ask", "want"), ("no", "ask", "want"), ("own", "own", None)],
        "answers": [("ask", "give", "own", None), ("own", "yield", "no", "hand"), ("no", "yield", "no", None)],
        "idles": [("out", "want", "take"), ("boss", "want", "take"), ("out", "hand", "out", None, False)],
        "busies": [("take", "boss", "hand", "out", None, True), ("take", "out", "hand", "out", None, False)],
    }


def states_of(moment):
    return [local[0] for local in moment.caches()]


def stand(states, pair):
    return any(sorted(two) == sorted(pair) for two in itertools.combinations(states, 2))


def pairs_of(book):
    """All pairs that could be told, in their order."""
    names = [name for name, _ in book.states()]
    return list(itertools.combinations_with_replacement(names, 2))


class TestBeside(unittest.TestCase):

    def test_known(self):
        self.assertEqual(beside(example()), [("no", "no"), ("no", "ask"), ("no", "own"), ("ask", "ask"), ("ask", "own")])
        self.assertEqual(beside(small()), [("no", "no")])
        pairs = pairs_of(made(shared_parts()))
        gone = [("has", "own"), ("own", "own")]
        self.assertEqual(beside(made(shared_parts())), [pair for pair in pairs if pair not in gone])
        self.assertEqual(beside(putting()), pairs_of(putting()))

    def test_owner_and_asker_are_two_caches_or_one(self):
        # The one that asks again is the owner: nobody else is ever in these states.
        tasks = [("take", [("out", None), ("boss", None)], ["out"], ["out", "boss"], "boss", "give", "asker")]
        book = example(tasks=tasks, answers=[("ask", "give", "own", None)], idles=[("out", "want", "take"), ("boss", "want", "take")],
                       wishes=[("no", "ask", "want"), ("own", "own", "want")], busies=[])
        if views(book, 2)[0] == "closed":
            self.compare(book)
        self.compare(both_become_others())

    def test_an_owner_that_asks_is_one_cache(self):
        # It owns the line and asks again; nobody ever comes to the last state, whatever it is called.
        for name in ("a", "asker", "s"):
            book = small(states=[("no", ""), ("ask", "w"), (name, "")], downs=[("done", False)],
                         wishes=[("no", "ask", "want")], answers=[("ask", "done", "no", None)],
                         tasks=[("take", [("out", None)], ["out"], ["out"], "out", "done", "asker")],
                         idles=[("out", "want", "take")])
            self.assertEqual(views(book, 2)[0], "closed")
            self.assertIn("asker", [control[2] for control, _ in views(book, 2)[1]])
            self.assertEqual(self.compare(book), [("no", "no"), ("no", "ask"), ("ask", "ask")])

    def compare(self, book):
        """Compares the pairs with those of the list of views of 2, word by word."""
        met = set()
        for (_, _, owner, asker), others in naive_of(book).closed(2, 20000):
            caches = [local for local in (owner, asker) if local not in (None, "asker")] + list(others)
            for one, other in itertools.permutations(caches, 2):
                met.add((one[0], other[0]))
        self.assertEqual(beside(book), [pair for pair in pairs_of(book) if pair in met])
        return beside(book)

    def test_like_the_plain_writing(self):
        sizes, closed = set(), 0
        books = [chance_book(seed) for seed in range(250)] + [near_book(seed, example_parts()) for seed in range(40)]
        for book in books:
            if not self.closes(book, 40):
                continue
            closed += 1
            sizes.add(len(self.compare(book)))
        self.assertGreater(closed, 12)
        self.assertLessEqual({3, 6}, sizes)

    def closes(self, book, most):
        try:
            return views(book, 2, most=most)[0] == "closed"
        except TooMany:
            return False

    def test_what_can_be_come_to_is_told(self):
        for book in (example(), made(shared_parts()), right_by_two()):
            told = beside(book)
            for moment in all_moments(book, 2 if book != example() else 3)[::3]:
                for one, other in itertools.combinations(states_of(moment), 2):
                    self.assertTrue((one, other) in told or (other, one) in told)

    def test_too_many_and_not_right(self):
        for book in (example(), made(shared_parts()), right_by_two(), small(), told_by_calls()):
            many = len(views(book, 2)[1])
            beside(book, most=many)
            if many > 1:
                for most in (many - 1, 1):
                    with self.assertRaises(TooMany) as caught:
                        beside(book, most=most)
                    self.assertEqual(caught.exception.most, most)
        for book in (called_twice(), right_by_three(), wrong_by_four(), kit(wishes=[("no", "has", None)])):
            with self.assertRaises(NotRight):
                beside(book)
        # The bound goes ahead of whether the list is bad.
        many = len(naive_of(called_twice()).closed(2, 200))
        with self.assertRaises(NotRight):
            beside(called_twice(), most=many)
        with self.assertRaises(TooMany):
            beside(called_twice(), most=many - 1)

    def test_other_names(self):
        for parts in (example_parts(), shared_parts()):
            names = dict(zip([row[0] for row in parts["states"]], [row[0] for row in renamed_parts(parts)["states"]]))
            told = [(names[one], names[other]) for one, other in beside(made(parts))]
            self.assertEqual(beside(made(renamed_parts(parts))), told)

    def test_arguments(self):
        for most in NO_MOST:
            with self.assertRaises(NoMost):
                beside(example(), most=most)
            with self.assertRaises(NoMost):
                beside(called_twice(), most=most)


class TestBesideRun(unittest.TestCase):

    def leads(self, book, pair, n, many, **bounds):
        found = beside_run(book, pair, **bounds)
        if n is None:
            self.assertIsNone(found)
            return
        self.assertEqual((type(found), len(found), found[0], type(found[1])), (tuple, 2, n, list))
        self.assertEqual(len(found[1]), many)
        self.assertTrue(stand(states_of(played(first(book, n), found[1])), pair))
        self.assertIsNone(beside_fault(book, pair, n, found[1]))

    def test_known(self):
        self.leads(example(), ("no", "no"), 2, 0)
        self.leads(example(), ("no", "no"), 2, 0, caches=2, most=1)
        self.leads(example(), ("no", "ask"), 2, 1)
        self.leads(example(), ("ask", "ask"), 2, 2)
        self.leads(example(), ("no", "own"), 2, 4)
        self.leads(example(), ("ask", "own"), 2, 5)
        self.leads(example(), ("own", "own"), None, None)
        self.leads(made(shared_parts()), ("has", "has"), 2, 8)
        self.leads(made(shared_parts()), ("has", "own"), None, None, caches=2)

    def test_one_cache_stands_beside_nobody(self):
        for pair in pairs_of(example()):
            self.leads(example(), pair, None, None, caches=1)
            self.leads(example(), pair, None, None, caches=1, most=1)

    def test_more_caches(self):
        # Two others are served only where a third one has asked ahead of them.
        for caches in (3, 4, 6):
            self.leads(needs_three(), ("own", "own"), 3, self.least(needs_three(), ("own", "own"), 3), caches=caches)
        self.leads(needs_three(), ("own", "own"), None, None, caches=2)

    def test_behind_something_wrong(self):
        book = kit(wishes=[("no", "has", None), ("has", "keep", None)])
        self.leads(book, ("has", "has"), 2, 2)
        self.leads(book, ("has", "keep"), 2, 3)
        self.leads(book, ("keep", "keep"), 2, 4)

    def least(self, book, pair, n):
        """The fewest steps, by layers of classes."""
        for steps, layer in enumerate(naive.layers(book, n, 3000)):
            if any(stand([cache["state"] for cache in world["caches"]], pair) for world in layer):
                return steps
        return None

    def test_bounds_count_classes_of_fewer_steps(self):
        for pair, steps in ((("no", "ask"), 1), (("ask", "ask"), 2), (("no", "own"), 4), (("ask", "own"), 5)):
            layers = naive.layers(example(), 2, 3000)
            many = sum(len(layer) for layer in layers[:steps])
            self.leads(example(), pair, 2, steps, most=many)
            if many > 1:
                with self.assertRaises(TooMany) as caught:
                    beside_run(example(), pair, most=many - 1)
                self.assertEqual(caught.exception.most, many - 1)
        # There is no answer: all classes count, of two caches, then of three.
        counts = [reached(example(), n) for n in (2, 3, 4)]
        self.leads(example(), ("own", "own"), None, None, caches=2, most=counts[0])
        self.leads(example(), ("own", "own"), None, None, caches=3, most=counts[1])
        for caches, most in ((2, counts[0] - 1), (3, counts[1] - 1), (4, counts[2] - 1), (3, counts[0])):
            with self.assertRaises(TooMany) as caught:
                beside_run(example(), ("own", "own"), caches=caches, most=most)
            self.assertEqual(caught.exception.most, most)

    def test_like_the_plain_writing(self):
        met = set()
        for seed in range(40):
            for book in (chance_book(seed), near_book(seed, example_parts())):
                layers = naive.layers(book, 2, 80)
                if sum(len(layer) for layer in layers) > 80:
                    continue
                for pair in pairs_of(book):
                    many = self.least(book, pair, 2)
                    self.leads(book, pair, None if many is None else 2, many, caches=2)
                    met.add(many)
        self.assertLessEqual({None, 0, 1, 2, 3, 4}, met)

    def test_arguments(self):
        for pair in no_pairs():
            for caches in (3, 0):
                for most in (3000, 0):
                    with self.assertRaises(NoPair):
                        beside_run(example(), pair, caches=caches, most=most)
        for caches in NO_MANY:
            for most in (3000, 0):
                with self.assertRaises(NoMany):
                    beside_run(example(), ("no", "own"), caches=caches, most=most)
        for most in NO_MOST:
            with self.assertRaises(NoMost):
                beside_run(example(), ("no", "no"), caches=1, most=most)
            with self.assertRaises(NoMost):
                beside_run(example(), ("no", "own"), most=most)


def needs_three():
    """A book in which a second one can be served only behind a task of a third one."""
    tasks = [("take", [("has", None), ("boss", None), ("boss", None)], ["out", "has", "boss"], ["out", "has", "boss"],
              "boss", None, "none")]
    return kit(wishes=[("no", "ask", "want")], tasks=tasks, downs=[("give", False), ("yield", False)],
               idles=[("out", "want", "take"), ("has", "want", "boss", "give", False)],
               answers=[("ask", "give", "own", None)])


def no_pairs():
    """Values that are no pairs of states of the example."""
    return odd_values() + [
        ("no",), ("no", "ask", "own"), ["no", "ask"], ("ask", "no"), ("own", "no"), ("own", "ask"), ("no", "none"), ("out", "boss"),
        ("no", None), (None, "no"), ("no", True), ("no", ["own"]), (["no"], "own"), ({}, "own"), ("no", 1), "no", "noown",
        ("No", "own"), (("no", "own"),), ("no", nested("own", 29)), ("no", example()), {"no": "own"}, {("no", "own"): 1},
    ]


class TestBesideFault(unittest.TestCase):

    def test_good(self):
        run = OWNED + [("wish", 1, 0)]
        for pair, n in ((("ask", "own"), 2), (("ask", "own"), 3), (("no", "own"), 3), (("no", "ask"), 3)):
            self.assertIsNone(beside_fault(example(), pair, n, run))
        self.assertIsNone(beside_fault(example(), ("no", "no"), 2, []))
        self.assertIsNone(beside_fault(example(), ("no", "no"), 3, OWNED))
        self.assertIsNone(beside_fault(example(), ("ask", "ask"), 3, [("wish", 0, 0), ("wish", 2, 0)]))

    def test_it_may_stand_so_earlier(self):
        self.assertIsNone(beside_fault(example(), ("no", "own"), 2, OWNED + HANDED))

    def test_form(self):
        for value in odd_values() + [tuple(OWNED), (), {}, None]:
            if not isinstance(value, list):
                for n in (1, 2, 6):
                    self.assertEqual(beside_fault(example(), ("no", "own"), n, value), ("form",))

    def test_step(self):
        for step in no_steps() + [("end",), ("wish", 2, 0), ("wish", 5, 0), ("wish", 0, 0), ("put", 1)]:
            for at in range(len(OWNED) + 1):
                if step != ("wish", 0, 0) or at > 0:
                    if step != ("end",) or at != 2:
                        thing = OWNED[:at] + [step] + OWNED[at:]
                        self.assertEqual(beside_fault(example(), ("own", "own"), 2, thing), ("step", at))
        self.assertEqual(beside_fault(example(), ("no", "no"), 2, [None, None]), ("step", 0))
        # What is alike stands behind the step that is none.
        self.assertEqual(beside_fault(example(), ("no", "own"), 2, OWNED + [("end",)]), ("step", 4))

    def test_a_jam_is_no_step(self):
        book = kit(wishes=[("no", "no", "want")])
        self.assertEqual(beside_fault(book, ("no", "no"), 2, [("wish", 0, 0), ("wish", 0, 0)]), ("step", 1))
        self.assertIsNone(beside_fault(book, ("no", "no"), 2, [("wish", 0, 0), ("wish", 1, 0)]))

    def test_apart(self):
        for pair in (("no", "no"), ("ask", "own"), ("no", "ask"), ("ask", "ask"), ("own", "own")):
            self.assertEqual(beside_fault(example(), pair, 2, OWNED), ("apart",))
        # One cache alone stands beside nobody, not even itself.
        for pair in pairs_of(example()):
            for run in ([], OWNED, OWNED[:1]):
                self.assertEqual(beside_fault(example(), pair, 1, run), ("apart",))
        self.assertEqual(beside_fault(example(), ("no", "no"), 2, OWNED[:1]), ("apart",))

    def test_arguments(self):
        for pair in no_pairs():
            for n in (2, 0):
                for thing in ([], None):
                    with self.assertRaises(NoPair):
                        beside_fault(example(), pair, n, thing)
        for n in NO_MANY:
            for thing in ([], None):
                with self.assertRaises(NoMany):
                    beside_fault(example(), ("no", "own"), n, thing)

    def test_nothing_changes(self):
        thing = OWNED + [None]
        beside_fault(example(), ("no", "own"), 2, thing)
        self.assertEqual(thing, OWNED + [None])


def is_fit(book, **bounds):
    """Whether the book is fit, as the document tells it."""
    try:
        return decide(book, **bounds)[0] == "right" and rests(book, **bounds) == ("rests",)
    except CopyError:
        return False


def left_out(book, part, index):
    parts = parts_of(book)
    del parts[part][index]
    return made(parts)


def places(book):
    parts = parts_of(book)
    return [(part, index) for part in PARTS if part in OPEN for index in range(len(parts[part]))]


class TestNeedless(unittest.TestCase):

    def compare(self, book, **bounds):
        """Compares the list with what decide and rests tell without each item; returns it."""
        if not is_fit(book, **bounds):
            with self.assertRaises(NotRight):
                needless(book, **bounds)
            return None
        found = needless(book, **bounds)
        self.assertEqual(found, [place for place in places(book) if is_fit(left_out(book, *place), **bounds)])
        self.assertLessEqual({("wishes", index) for index in range(len(book.wishes()))}, set(found))
        return found

    def test_known(self):
        self.assertEqual(self.compare(example()), [("wishes", 0)])
        self.assertEqual(self.compare(made(shared_parts())), [("wishes", 0), ("wishes", 1)])
        self.assertEqual(self.compare(made(loose_parts())), [
            ("wishes", 0), ("wishes", 1), ("wishes", 2), ("answers", 2), ("idles", 1), ("idles", 2), ("busies", 1)])
        self.assertEqual(self.compare(small()), [])
        self.assertEqual(self.compare(small(idles=[("out", "want", "take")])), [("idles", 0)])
        self.assertEqual(self.compare(putting()), [("wishes", 0), ("wishes", 1)])

    def test_each_item_is_left_out_by_itself(self):
        # Here what is needless stands ahead of what is needed.
        parts = {part: rows[::-1] if part in OPEN else rows for part, rows in loose_parts().items()}
        self.assertEqual(self.compare(made(parts)), [
            ("wishes", 0), ("wishes", 1), ("wishes", 2), ("answers", 0), ("idles", 0), ("idles", 1), ("busies", 0)])
        self.assertEqual(len(used(made(parts))), 7)

    def test_books_that_are_not_fit(self):
        for book in (called_twice(), wrong_by_four(), kit(wishes=[("no", "has", None)]), made(full_parts())):
            self.assertIsNone(self.compare(book))
        # Right, but not by views of 1, so rests does not tell that it rests.
        self.assertIsNone(self.compare(right_by_two()))
        # Right by views of 1, and one that waits is never served.
        book = kit(wishes=[("no", "ask", None)])
        self.assertEqual(decide(book)[:2], ("right", 1))
        self.assertIsNone(self.compare(book))

    def test_bounds(self):
        many = len(views(example(), 1)[1])
        self.assertEqual(self.compare(example(), most=many), [("wishes", 0)])
        for most in (many - 1, 1):
            with self.assertRaises(NotRight):
                needless(example(), most=most)
        for caches in range(1, 7):
            self.assertEqual(self.compare(example(), caches=caches), [("wishes", 0)])

    def test_an_item_without_which_there_are_too_many_views(self):
        # Without the answers many more letters are under way.
        book = made(loose_parts())
        many = len(views(book, 1)[1])
        self.assertEqual(self.compare(book, most=many), needless(book))

    def test_like_decide_and_rests(self):
        fit = 0
        books = [near_book(seed, parts) for seed in range(90) for parts in (loose_parts(), shared_parts(), example_parts())]
        for book in books + [chance_book(seed) for seed in range(0, 300, 6)]:
            if is_fit(book, caches=1, most=500):
                fit += 1
                self.compare(book, caches=1, most=500)
            else:
                with self.assertRaises(NotRight):
                    needless(book, caches=1, most=500)
        self.assertGreater(fit, 20)

    def test_arguments(self):
        for caches in NO_MANY:
            for most in (3000, 0):
                with self.assertRaises(NoMany):
                    needless(called_twice(), caches=caches, most=most)
        for most in NO_MOST:
            with self.assertRaises(NoMost):
                needless(called_twice(), caches=2, most=most)

    def test_what_is_returned_is_new(self):
        book = made(loose_parts())
        needless(book).clear()
        used(book).clear()
        self.assertEqual(len(needless(book)), 7)
        self.assertEqual(book, made(loose_parts()))


class TestUsed(unittest.TestCase):

    def plain(self, book, given):
        """The items by which some step is made from the views, one by one."""
        met = set()
        for view in given:
            world = world_of(view)
            for step, _ in naive.moves(book, world):
                if step[0] in ("put", "end"):
                    continue
                cache = world["caches"][step[1]]
                if step[0] == "wish":
                    met.add(("wishes", step[2]))
                elif step[0] == "answer":
                    rows = [row[:2] for row in book.answers()]
                    met.add(("answers", rows.index((cache["state"], step[2]))))
                elif world["task"] is None:
                    met.add(("idles", [row[:2] for row in book.idles()].index((cache["mark"], step[2]))))
                else:
                    rows = [row[:3] for row in book.busies()]
                    met.add(("busies", rows.index((world["task"], cache["mark"], step[2]))))
        return [place for place in places(book) if place in met]

    def compare(self, book):
        found = used(book)
        self.assertEqual(found, self.plain(book, views(book, 1)[1]))
        return found

    def test_known(self):
        self.assertEqual(self.compare(example()), places(example()))
        self.assertEqual(self.compare(made(shared_parts())), places(made(shared_parts())))
        # Two equal wishes count each for itself.
        self.assertEqual(self.compare(made(loose_parts())), [
            ("wishes", 0), ("wishes", 1), ("wishes", 2), ("answers", 0), ("answers", 1), ("idles", 0), ("busies", 0)])
        self.assertEqual(self.compare(small()), [])
        self.assertEqual(self.compare(small(wishes=[("own", "no", None), ("no", "no", None)])), [("wishes", 1)])
        # The views of 1 are closed and not bad; whoever waits is never served.
        self.assertEqual(self.compare(kit(wishes=[("no", "ask", None)])), [("wishes", 0)])

    def test_a_step_that_jams_uses_nothing(self):
        # Home could only answer beside a letter that it has sent: that is wrong, so there are no such lists.
        with self.assertRaises(NotRight):
            used(kit(wishes=[("no", "no", "want")]))

    def test_like_the_plain_writing(self):
        closed, unused = 0, 0
        books = [near_book(seed, parts) for seed in range(40) for parts in (loose_parts(), shared_parts(), example_parts())]
        for book in books + [chance_book(seed) for seed in range(150)]:
            try:
                word = views(book, 1, most=150)[0]
            except TooMany:
                continue
            if word == "closed":
                closed += 1
                unused += len(self.compare(book)) < len(places(book))
        self.assertGreater(closed, 30)
        self.assertGreater(unused, 20)

    def test_what_is_not_used_never_makes_a_step(self):
        for parts in (loose_parts(), shared_parts()):
            book = made(parts)
            told = used(book)
            wishes = {index for part, index in told if part == "wishes"}
            for moment in all_moments(book, 2)[::4]:
                for step in moment.steps():
                    if step[0] == "wish":
                        self.assertIn(step[2], wishes)

    def test_too_many_and_not_right(self):
        for book in (example(), made(shared_parts()), putting()):
            many = len(views(book, 1)[1])
            used(book, most=many)
            for most in (many - 1, 1):
                with self.assertRaises(TooMany) as caught:
                    used(book, most=most)
                self.assertEqual(caught.exception.most, most)
        for book in (called_twice(), right_by_two(), wrong_by_four()):
            with self.assertRaises(NotRight):
                used(book)

    def test_arguments(self):
        for most in NO_MOST:
            for book in (example(), called_twice()):
                with self.assertRaises(NoMost):
                    used(book, most=most)


if __name__ == "__main__":
    unittest.main()
