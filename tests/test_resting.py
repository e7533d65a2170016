"""Points [26] and [27]: coming to rest."""

import unittest

from copybooks.errors import NoCache, NoMany, NoMost, TooMany, Undecided
from copybooks.moments import first, played
from copybooks.resting import can_rest, restless, rests
from copybooks.searches import reached
from copybooks.views import views
from tests import naive, naive_rest
from tests.naive_views import world_of
from tests.samples import (
    Chance, called_twice, chance_book, example, example_parts, full_parts, made, near_book, nested, odd_values, putting,
    renamed_parts, right_by_three, right_by_two, shared_parts, small,
)
from tests.test_searches import NO_MANY, NO_MOST
from tests.test_steps import kit, task

NO_CACHE = [-1, 10 ** 30, True, False, None, "0", [0], (0,), {}, nested(0, 30), example()]

CALM = ("answer", "take", "end")


def waiting(book, moment):
    """The caches that wait at the moment."""
    traits = dict(book.states())
    return [i for i, local in enumerate(moment.caches()) if "w" in traits[local[0]]]


def world_at(moment):
    """The moment as a world of tests/naive.py."""
    task_now, memory, owner, asker = moment.home()
    caches = [{"state": state, "copy": data, "mark": mark, "ups": dict(ups), "downs": dict(downs)}
              for state, data, mark, ups, downs in moment.caches()]
    return {"task": task_now, "memory": memory, "owner": owner, "asker": asker, "caches": caches}


def bouncing(wait):
    """A book whose caches keep five letters going round without end; they may wait, and then nobody serves them."""
    ups, downs = ["ua", "ub", "uc", "ud", "ue"], ["da", "db", "dc", "dd", "de"]
    return small(
        states=[("no", ""), ("go", ""), ("ask", "w")], ups=[(name, False) for name in ups],
        downs=[(name, True) for name in downs],
        wishes=[("no", "go", None)] + [("go", "go", name) for name in ups] + [("go", "ask", None)] * wait,
        answers=[(state, down, state, up) for state in ("go", "ask") for up, down in zip(ups, downs)],
        idles=[("out", up, "out", down, False) for up, down in zip(ups, downs)])


class RestCase(unittest.TestCase):

    def leads(self, moment, i, many, **bounds):
        """Checks the length of a shortest run, where it leads, and the bound at its edge."""
        book = moment.book()
        run = can_rest(moment, i, **bounds)
        self.assertEqual(None if run is None else len(run), many)
        if run is not None:
            self.assertIs(type(run), list)
            self.assertTrue(all(step[0] in CALM for step in run))
            self.assertNotIn(i, waiting(book, played(moment, run)))
        steps, moments = naive_rest.resting(book, world_at(moment), i, 400)
        self.assertEqual(steps, many)
        if moments:
            self.assertEqual(can_rest(moment, i, most=moments) is None, many is None)
        if moments > 1:
            for most in {moments - 1, 1}:
                with self.assertRaises(TooMany) as caught:
                    can_rest(moment, i, most=most)
                self.assertEqual(caught.exception.most, most)

    def walk(self, book, n, many, chance):
        """Moments that a run made by chance leads to."""
        moment, found = first(book, n), []
        for _ in range(many):
            steps = moment.steps()
            if not steps:
                break
            moment = moment.after(chance.one_of(steps))
            found.append(moment)
        return found


class TestCanRest(RestCase):

    def test_rests_already(self):
        for n in range(1, 7):
            for i in range(n):
                for most in (1, 3000, 20000):
                    self.assertEqual(can_rest(first(example(), n), i, most=most), [])
        # The other one may wait as it likes.
        self.assertEqual(can_rest(played(first(example(), 2), [("wish", 0, 0)]), 1, most=1), [])

    def test_served(self):
        asked = played(first(example(), 1), [("wish", 0, 0)])
        self.assertEqual(can_rest(asked, 0), [("take", 0, "want"), ("end",), ("answer", 0, "give")])
        self.leads(asked, 0, 3)
        self.leads(asked.after(("take", 0, "want")), 0, 2)
        given = played(first(example(), 2), [("wish", 0, 0), ("take", 0, "want"), ("end",)])
        self.leads(given, 0, 1)
        self.leads(given.after(("wish", 1, 0)), 1, 6)

    def test_handed_on(self):
        # The owner has to answer first: take, answer, take, end, answer.
        owned = played(first(example(), 3), [("wish", 2, 0), ("take", 2, "want"), ("end",), ("answer", 2, "give")])
        for i in (0, 1):
            self.leads(owned.after(("wish", i, 0)), i, 5)
        both = played(owned, [("wish", 0, 0), ("wish", 1, 0)])
        self.leads(both, 0, 5)
        self.leads(both, 1, 5)
        self.leads(both.after(("take", 1, "want")), 0, 9)
        self.leads(both.after(("take", 1, "want")), 1, 4)

    def test_no_wishes_and_no_puts(self):
        # A wish of its own, or of another one, would help, and a put changes nothing.
        states = [("no", ""), ("ask", "w"), ("own", "hpw"), ("done", "")]
        book = kit(states=states, wishes=[("no", "ask", None), ("ask", "done", None), ("ask", "own", None)])
        moment = first(book, 2).after(("wish", 0, 0))
        self.leads(moment, 0, None)
        self.leads(moment.after(("wish", 0, 2)), 0, None)
        self.assertEqual(can_rest(moment.after(("wish", 0, 1)), 0), [])

    def test_a_jam_is_no_way(self):
        # The answer would send a letter beside one that home never takes.
        parts = {"ups": [("want", False), ("hand", False)], "downs": [("give", False)],
                 "wishes": [("no", "ask", "want"), ("ask", "ask", "hand")],
                 "idles": [("out", "want", "out", "give", False)]}
        for up, many in (("hand", None), ("want", 1), (None, 1)):
            book = kit(answers=[("ask", "give", "no", up)], **parts)
            self.leads(played(first(book, 1), [("wish", 0, 0), ("wish", 0, 1), ("take", 0, "want")]), 0, many)

    def test_a_task_that_jams_is_none(self):
        # The other cache never answers the first call, so the second one would jam.
        asked = played(first(called_twice(), 2), [("wish", 0, 0), ("take", 0, "want"), ("end",)])
        self.leads(asked, 0, 1)
        again = played(asked, [("answer", 0, "done"), ("wish", 0, 0)])
        self.assertEqual(again.wrongs(), [("jam", ("take", 0, "want"))])
        self.leads(again, 0, None)

    def test_marks_that_never_are_quiet(self):
        # The owner never answers, so the task never ends.
        book = example(answers=example_parts()["answers"][:1])
        owned = played(first(book, 3), [("wish", 0, 0), ("take", 0, "want"), ("end",), ("answer", 0, "give"),
                                        ("wish", 1, 0), ("wish", 2, 0), ("take", 2, "want")])
        self.leads(owned, 1, None)
        self.leads(owned, 2, None)
        self.leads(owned, 0, 0)

    def test_steps_go_on_behind_what_is_wrong(self):
        book = example(wishes=example_parts()["wishes"] + [("no", "own", None)])
        moment = played(first(book, 2), [("wish", 0, 1), ("wish", 1, 0)])
        self.assertEqual(moment.wrongs(), [("stale", 0)])
        self.leads(moment, 1, 3)

    def test_most_counts_moments_not_classes(self):
        # Two other caches may each take their letter: four moments, though only three classes.
        book = kit(states=[("no", ""), ("ask", "w"), ("own", "h")], downs=[("give", True), ("yield", False)],
                   wishes=[("no", "no", "want"), ("no", "ask", None)], idles=[("out", "want", "out", None, False)])
        for n, many in ((2, 2), (3, 4), (4, 8), (6, 32)):
            moment = played(first(book, n), [("wish", i, 0) for i in range(1, n)] + [("wish", 0, 1)])
            self.assertIsNone(can_rest(moment, 0, most=many))
            with self.assertRaises(TooMany):
                can_rest(moment, 0, most=many - 1)

    def test_data_tell_moments_apart(self):
        # The cache gets the letter whose data differ by whether home has taken the hand letter first.
        book = kit(states=[("no", ""), ("ask", "hpw"), ("own", "hp")], wishes=[("no", "own", None), ("own", "ask", "hand"),
                                                                            ("ask", "ask", "want")],
                   idles=[("out", "want", "out", "give", False), ("out", "hand", "out", None, False)])
        moment = played(first(book, 1), [("wish", 0, 0), ("put", 0), ("wish", 0, 1), ("put", 0), ("wish", 0, 2)])
        self.leads(moment, 0, None)

    def test_books_by_chance(self):
        chance, lengths = Chance(31), set()
        for seed in range(30):
            for book in (chance_book(seed), near_book(seed, example_parts()), near_book(seed, shared_parts())):
                for moment in self.walk(book, 1 + chance.below(3), 9, chance)[2::3]:
                    for i in range(len(moment.caches())):
                        steps, moments = naive_rest.resting(book, world_at(moment), i, 60)
                        if steps == "many":
                            with self.assertRaises(TooMany):
                                can_rest(moment, i, most=60)
                        else:
                            self.leads(moment, i, steps)
                        lengths.add(steps)
        self.assertLessEqual({None, 0, 1, 2, 3, 5, 8}, lengths)

    def test_nothing_changes(self):
        moment = played(first(example(), 2), [("wish", 0, 0), ("wish", 1, 0)])
        before = (moment.home(), moment.caches())
        can_rest(moment, 0).clear()
        self.assertEqual(len(can_rest(moment, 0)), 3)
        self.assertEqual((moment.home(), moment.caches()), before)

    def test_arguments(self):
        for n in (1, 2, 6):
            moment = first(example(), n)
            for i in NO_CACHE + [n, n + 1] + [value for value in odd_values() if value not in (0, 1)]:
                for most in (3000, 0, None):
                    with self.assertRaises(NoCache):
                        can_rest(moment, i, most=most)
            for most in NO_MOST:
                with self.assertRaises(NoMost):
                    can_rest(moment, 0, most=most)


class RestlessCase(unittest.TestCase):

    def leads(self, book, n, many, **bounds):
        """Checks a shortest run to a cache that is stuck, and returns its index."""
        found = restless(book, n, **bounds)
        if many is None:
            self.assertIsNone(found)
            return None
        self.assertEqual((type(found), type(found[0]), len(found)), (tuple, list, 2))
        run, i = found
        self.assertEqual(len(run), many)
        self.assertIs(type(i), int)
        moment = played(first(book, n), run)
        self.assertIn(i, waiting(book, moment))
        self.assertIsNone(can_rest(moment, i, most=20000))
        return i

    def too_many(self, book, n, most):
        with self.assertRaises(TooMany) as caught:
            restless(book, n, most=most)
        self.assertEqual(caught.exception.most, most)


class TestRestless(RestlessCase):

    def test_none(self):
        for n in range(1, 7):
            self.leads(example(), n, None)
            self.leads(example(), n, None, most=reached(example(), n))
            self.too_many(example(), n, reached(example(), n) - 1)
        self.leads(made(shared_parts()), 2, None)
        self.leads(small(), 6, None, most=1)
        self.leads(putting(), 3, None)

    def test_nobody_serves(self):
        book = kit(wishes=[("no", "ask", None)])
        for n in range(1, 7):
            self.leads(book, n, 1)
            # The first moment is the only one that fewer steps lead to.
            self.leads(book, n, 1, most=1)

    def test_the_owner_does_not_answer(self):
        book = example(answers=example_parts()["answers"][:1])
        # Alone each one is served, as the owner never asks again.
        self.leads(book, 1, None)
        for n in range(2, 6):
            # Whoever asks while another one is the asker waits for ever: that one will not answer its call.
            self.leads(book, n, 3)

    def test_most_counts_classes_of_fewer_steps(self):
        book = example(answers=example_parts()["answers"][:1])
        for n in (2, 3, 6):
            steps, count = naive_rest.restless(book, n, 200)
            self.assertEqual(steps, 3)
            self.leads(book, n, 3, most=count)
            self.too_many(book, n, count - 1)
            self.too_many(book, n, 1)

    def test_it_does_not_matter_how_many_moments_rest_goes_through(self):
        # Five letters of each cache go round and round: far more moments than any bound allows.
        for n in (1, 2, 6):
            self.leads(bouncing(1), n, 2, most=20000)
        moment = first(bouncing(1), 6)
        run = [("wish", i, 0) for i in range(6)] + [("wish", i, index) for i in range(6) for index in range(1, 6)]
        moment = played(moment, run + [("wish", 0, 6)])
        with self.assertRaises(TooMany):
            can_rest(moment, 0, most=20000)
        self.too_many(bouncing(0), 6, 3000)

    def test_behind_something_wrong(self):
        # It is stale first, and stuck some steps later.
        book = kit(wishes=[("no", "has", None), ("has", "keep", None), ("keep", "ask", None)])
        self.leads(book, 1, 3)
        self.leads(book, 2, 3)

    def test_books_by_chance(self):
        met = set()
        for seed in range(24):
            for book in (chance_book(seed), near_book(seed, example_parts()), near_book(seed, shared_parts())):
                for n, most in ((1, 50), (2, 40), (3, 20)):
                    steps, count = naive_rest.restless(book, n, most)
                    met.add((n, steps))
                    if steps == "many":
                        self.too_many(book, n, most)
                        continue
                    i = self.leads(book, n, steps, most=max(count, 1))
                    if steps is not None:
                        run = restless(book, n)[0]
                        world = world_at(played(first(book, n), run))
                        self.assertIn(i, naive_rest.stuck(book, world))
                    if count > 1:
                        self.too_many(book, n, count - 1)
        for n in (1, 2, 3):
            self.assertLessEqual({(n, None), (n, "many"), (n, 1), (n, 3), (n, 5)}, met)

    def test_arguments(self):
        for n in NO_MANY:
            for most in (3000, 0):
                with self.assertRaises(NoMany):
                    restless(example(), n, most=most)
        for most in NO_MOST:
            with self.assertRaises(NoMost):
                restless(example(), 2, most=most)


class TestRests(unittest.TestCase):

    def test_rests(self):
        for book in (example(), made(shared_parts()), small(), putting(), kit()):
            for caches in (1, 3, 6):
                self.assertEqual(rests(book, caches=caches), ("rests",))
            self.assertEqual(rests(book), ("rests",))
            many = len(views(book, 1)[1])
            self.assertEqual(rests(book, most=many), ("rests",))
            if many > 1:
                with self.assertRaises(TooMany) as caught:
                    rests(book, most=many - 1)
                self.assertEqual(caught.exception.most, many - 1)

    def waits(self, book, n, many, **bounds):
        found = rests(book, **bounds)
        self.assertEqual((type(found), len(found), found[:2]), (tuple, 4, ("waits", n)))
        self.assertEqual(len(found[2]), many)
        moment = played(first(book, n), found[2])
        self.assertIn(found[3], waiting(book, moment))
        self.assertIsNone(can_rest(moment, found[3]))

    def test_waits(self):
        book = kit(wishes=[("no", "ask", None)])
        for caches in (1, 2, 6):
            self.waits(book, 1, 1, caches=caches)
        self.waits(book, 1, 1)
        # The views of 1 are closed and not bad, but one that waits is never served.
        self.assertEqual(views(book, 1)[0], "closed")
        self.assertEqual(len(views(book, 1)[1]), 3)
        self.waits(book, 1, 1, most=3)
        with self.assertRaises(TooMany):
            rests(book, most=2)

    def test_it_takes_two_caches(self):
        book = example(answers=example_parts()["answers"][:1])
        self.waits(book, 2, 3)
        self.waits(book, 2, 3, caches=2)
        with self.assertRaises(Undecided):
            rests(book, caches=1)

    def test_who_waits_may_be_the_owner_the_asker_or_another_one(self):
        # The one that waits owns the line, and nobody lets it rest.
        tasks = [("take", [("out", None), ("out", None), ("out", None)], ["out"], ["out"] * 3, "out", None, "asker")]
        book = kit(wishes=[("no", "ask", "want")], idles=[("out", "want", "take")], tasks=tasks)
        self.waits(book, 1, 1)
        # It rests until it is the owner, or the asker: then a letter makes it wait.
        tasks = [("take", [("out", None), ("out", None), ("out", None)], ["out"], ["out"] * 3, "out", "yield", "asker")]
        book = kit(wishes=[("no", "no", "want")], idles=[("out", "want", "take")], tasks=tasks,
                   answers=[("no", "yield", "ask", None)])
        self.waits(book, 1, 4)
        tasks = [("take", [("out", None), ("out", None), ("out", None)], ["has"], ["out"] * 3, "out", "yield", "none")]
        book = kit(states=[("no", ""), ("ask", "w")], wishes=[("no", "ask", "want")], idles=[("out", "want", "take")],
                   tasks=tasks, answers=[("ask", "yield", "no", None)])
        # Here alone each asker is served; beside another cache it waits, as that one's mark is never quiet.
        self.assertIsNone(restless(book, 1))
        self.waits(book, 2, 1)

    def test_bad_views_leave_it_to_the_runs(self):
        # The views of 1 are bad, though the book is right; who has the mark b or d is never served again.
        for book, steps in ((right_by_two(), 5), (right_by_three(), 5)):
            self.assertEqual(views(book, 1)[0], "wrong")
            self.waits(book, 1, steps)
        # Nobody ever waits here, but the views of 1 are bad.
        with self.assertRaises(Undecided):
            rests(kit(wishes=[("no", "has", None)]))
        with self.assertRaises(Undecided):
            rests(kit(wishes=[("no", "has", None)]), caches=6)

    def test_too_many_classes_of_runs(self):
        # One cache comes to two classes, two come to three, and so on; nobody waits, and the views are bad.
        book = kit(wishes=[("no", "has", None)])
        self.assertEqual([reached(book, n) for n in range(1, 7)], [2, 3, 4, 5, 6, 7])
        many = 4
        with self.assertRaises(TooMany):
            views(book, 1, most=many - 2)
        self.assertEqual(views(book, 1, most=many)[0], "wrong")
        for caches in range(1, 7):
            with self.assertRaises(Undecided if caches < 4 else TooMany) as caught:
                rests(book, caches=caches, most=many)
        self.assertEqual(caught.exception.most, many)

    def test_like_the_plain_writing(self):
        met = set()
        for seed in range(50):
            for book in (chance_book(seed), near_book(seed, example_parts())):
                plain = naive_rest.all_rest(book, 45)
                met.add(plain)
                if plain == "many":
                    with self.assertRaises(TooMany):
                        rests(book, most=45)
                elif plain:
                    self.assertEqual(rests(book, most=45), ("rests",))
                else:
                    self.compare_waits(book)
        self.assertEqual(met, {"many", True, False})

    def compare_waits(self, book):
        for n in (1, 2):
            try:
                found = restless(book, n)
            except TooMany:
                with self.assertRaises(TooMany):
                    rests(book, caches=n)
                return
            if found is not None:
                self.assertEqual(rests(book, caches=2), ("waits", n) + found)
                return
            with self.assertRaises(Undecided):
                rests(book, caches=n)

    def test_rests_means_that_nobody_waits_for_ever(self):
        for book in (example(), made(shared_parts()), near_book(0, shared_parts())):
            if rests(book) == ("rests",):
                for n in (1, 2, 3):
                    self.assertIsNone(restless(book, n, most=20000))

    def test_other_names(self):
        for parts in (example_parts(), shared_parts(), full_parts()):
            word = None
            for book in (made(parts), made(renamed_parts(parts))):
                try:
                    found = rests(book)
                    told = (found[0],) + ((found[1], len(found[2])) if len(found) > 1 else ())
                except (TooMany, Undecided) as error:
                    told = type(error)
                word = word or told
                self.assertEqual(told, word)

    def test_arguments(self):
        for caches in NO_MANY:
            for most in (3000, 0):
                with self.assertRaises(NoMany):
                    rests(example(), caches=caches, most=most)
        for most in NO_MOST:
            with self.assertRaises(NoMost):
                rests(example(), caches=2, most=most)


class TestViewsThatRest(unittest.TestCase):

    def test_each_view_is_asked_by_itself(self):
        # In the moment of a view "end" asks the caches of the view alone.
        for book in (example(), made(shared_parts())):
            for view in views(book, 1)[1]:
                self.assertEqual(naive_rest.stuck(book, world_of(view)), [])

    def test_worlds_are_those_of_moments(self):
        moment = played(first(example(), 2), [("wish", 1, 0), ("take", 1, "want")])
        self.assertEqual(naive.told(example(), world_at(moment)), (moment.home(), moment.caches()))
        self.assertEqual(task("take")[0], "take")


if __name__ == "__main__":
    unittest.main()
