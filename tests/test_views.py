"""Points [20] to [23]: views, and the least closed lists of them."""

import itertools
import unittest

from copybooks.errors import NoMost, NoViews, TooMany
from copybooks.moments import first
from copybooks.viewjudge import closed_fault
from copybooks.views import views
from tests.naive_views import naive_of
from tests.samples import (
    both_become_others, called_twice, example, example_parts, full_parts, made, nested, odd_values, putting,
    renamed_parts, right_by_three, right_by_two, shared_parts, small, told_by_calls, wrong_by_five,
)
from tests.test_searches import NO_MOST
from tests.test_steps import kit, task

NO_VIEWS = [0, 4, -1, 10 ** 30, True, False, None, "1", [1], (1,), {}, nested(1, 30), example()]

START = (None, "last", None, None)

FREE = (None, "elder", None, None)

NO = ("no", "none", "out", (), ())


def own(data):
    return ("own", data, "out", (), ())


def had(moment, k):
    """The views of k that a moment of the package has."""
    (task_now, memory, owner, asker), caches = moment.home(), moment.caches()
    others = sorted(cache for i, cache in enumerate(caches) if i not in (owner, asker))
    told = None if owner is None else "asker" if owner == asker else caches[owner]
    control = (task_now, memory, told, None if asker is None else caches[asker])
    return {(control, part) for many in range(k + 1) for part in itertools.combinations(others, many)}


def all_moments(book, n):
    """All moments of n caches that can be come to."""
    rows = [first(book, n)]
    for moment in rows:
        rows += [after for after in map(moment.after, moment.steps()) if after not in rows]
    return rows


def sizes(book):
    """How many views of 1, 2 and 3 the least closed lists have that are not bad."""
    return [len(views(book, k)[1]) for k in (1, 2, 3)]


class ViewCase(unittest.TestCase):

    def closes(self, book, k, many, most=20000):
        """Checks the bound at its edge, and what a closed list must be; returns the list."""
        word, found = views(book, k, most=many)
        self.assertEqual(word, "closed")
        self.assertIs(type(found), list)
        self.assertEqual(len(found), many)
        self.assertEqual(len(set(found)), many)
        for _, others in found:
            self.assertLessEqual(len(others), k)
            self.assertEqual(list(others), sorted(others))
        self.assertIsNone(closed_fault(book, k, found))
        self.too_many(book, k, many - 1)
        return found

    def too_many(self, book, k, most):
        if most:
            with self.assertRaises(TooMany) as caught:
                views(book, k, most=most)
            self.assertEqual(caught.exception.most, most)

    def is_bad(self, book, k, many):
        """Checks the bound at its edge, and what is told of a list that is bad; returns kind and view."""
        word, kind, view = views(book, k, most=many)
        self.assertEqual(word, "wrong")
        plain = naive_of(book)
        self.assertIn(kind, plain.wrong(view))
        self.assertLessEqual(len(view[1]), k + 1)
        self.assertEqual(list(view[1]), sorted(view[1]))
        self.assertLessEqual(plain.views(view, k), plain.closed(k, many))
        self.too_many(book, k, many - 1)
        return kind, view


class TestClosed(ViewCase):

    def test_without_steps(self):
        for k in (1, 2, 3):
            found = self.closes(small(), k, k + 1)
            self.assertEqual(set(found), {(START, (NO,) * many) for many in range(k + 1)})

    def test_wishes_of_others(self):
        book = kit(wishes=[("no", "ask", None)])
        ask = ("ask", "none", "out", (), ())
        self.assertEqual(set(self.closes(book, 1, 3)), {(START, ()), (START, (NO,)), (START, (ask,))})
        self.assertEqual(set(self.closes(book, 2, 6)), {(START, ()), (START, (NO,)), (START, (ask,)), (START, (NO, NO)),
                                                        (START, (ask, NO)), (START, (ask, ask))})
        self.assertEqual(len(self.closes(book, 3, 10)), 10)

    def test_puts_of_others_age_all(self):
        # That an other holds an elder put is seen only at moments of two others.
        found = self.closes(putting(), 1, 8)
        self.assertEqual(set(found), {
            (START, ()), (START, (NO,)), (START, (own("none"),)),
            (FREE, ()), (FREE, (NO,)), (FREE, (own("none"),)), (FREE, (own("elder"),)), (FREE, (own("last"),))})
        pairs = {others for control, others in self.closes(putting(), 2, 20) if control == FREE and len(others) == 2}
        self.assertIn((own("elder"), own("elder")), pairs)
        self.assertIn((own("elder"), own("last")), pairs)
        self.assertNotIn((own("last"), own("last")), pairs)
        self.closes(putting(), 3, 40)

    def test_example(self):
        self.assertEqual(sizes(example()), [36, 72, 120])
        for k, many in ((1, 36), (2, 72), (3, 120)):
            self.closes(example(), k, many)

    def test_example_by_its_controls(self):
        found = views(example(), 1)[1]
        ask = ("ask", "none", "out", (), ())
        asked = ("ask", "none", "out", (("want", None),), ())
        boss = ("own", "last", "boss", (), ())
        self.assertEqual({others for control, others in found if control == (None, "elder", boss, None)},
                         {(), (NO,), (asked,)})
        self.assertEqual({others for control, others in found if control == ("take", "last", None, ask)},
                         {(), (NO,), (asked,)})
        self.assertEqual({control[0] for control, _ in found}, {None, "take"})
        self.assertNotIn("asker", {control[2] for control, _ in found})

    def test_shared(self):
        self.assertEqual(sizes(made(shared_parts())), [89, 257, 617])

    def test_an_owner_that_asks(self):
        book = kit(states=[("no", ""), ("ask", "w")], downs=[("give", False)], ups=[("want", False)],
                   wishes=[("no", "ask", "want")], answers=[("ask", "give", "no", None)],
                   idles=[("out", "want", "take")], tasks=[task("take", owner="asker", mark="out", down="give")])
        ask = ("ask", "none", "out", (), ())
        asked = ("ask", "none", "out", (("want", None),), ())
        given = ("ask", "none", "out", (), (("give", None),))
        for k, many in ((1, 34), (2, 82), (3, 160)):
            controls = {control for control, _ in self.closes(book, k, many)}
            self.assertEqual({control[2] for control in controls}, {None, "asker", NO, asked, given})
            self.assertEqual({control[3] for control in controls if control[2] == "asker"}, {ask})

    def test_an_owner_and_an_asker_become_others(self):
        # The owner gets the mark old, the asker the mark seen, and further tasks take both marks away.
        for k, many in ((1, 99), (2, 361), (3, 965)):
            found = self.closes(both_become_others(), k, many)
            if k < 3:
                self.assertEqual(set(found), naive_of(both_become_others()).closed(k, many))
            pairs = {others for control, others in found if control == START and len(others) == 2}
            met = {tuple(sorted(local[2] for local in others)) for others in pairs}
            self.assertEqual(("old", "seen") in met, k > 1)

    def test_an_owner_and_an_asker_become_alike_others(self):
        calls = [("out", None), ("boss", None), ("out", None)]
        quiet, ends = ["out", "boss", "old"], ["out", "old", "old"]
        book = small(states=[("no", ""), ("end", "")], ups=[("want", False), ("take", False)], marks=quiet,
                     wishes=[("no", "end", "want"), ("no", "end", "take")],
                     tasks=[("look", calls, quiet, ends, "old", None, "none"),
                            ("take", calls, quiet, ends, "boss", None, "asker")],
                     idles=[("out", "want", "look"), ("out", "take", "take")])
        old = ("end", "none", "old", (), ())
        for k in (1, 2, 3):
            found = views(book, k)[1]
            self.closes(book, k, len(found))
            self.assertEqual((START, (old, old)) in found, k > 1)
            self.assertNotIn((START, (old, old, old)), found)
            if k < 3:
                self.assertEqual(set(found), naive_of(book).closed(k, len(found)))

    def test_calls_that_bear_data(self):
        for k, many in ((1, 48), (2, 368), (3, 2173)):
            found = self.closes(told_by_calls(), k, many)
            if k < 3:
                self.assertEqual(set(found), naive_of(told_by_calls()).closed(k, many))
            letters = {letter for _, others in found for local in others for letter in local[4]}
            self.assertEqual(letters, {("done", None), ("tell", "elder"), ("tell", "last")})

    def test_names_that_are_words_of_the_program(self):
        names = {"no": "asker", "askread": "none", "askput": "stays", "has": "same", "own": "end", "read": "end", "put": "put",
                 "hand": "take", "gone": "wish", "give": "answer", "lend": "aged", "leave": "called", "share": "ended",
                 "out": "stale", "boss": "jam", "reading": "end", "putting": "put"}
        book = made(renamed_parts(shared_parts(), names))
        self.assertEqual(sizes(book), [89, 257, 617])
        self.assertEqual(book.states()[0], ("asker", ""))
        self.closes(book, 1, 89)
        self.closes(book, 2, 257)

    def test_all_that_can_be_come_to_has_its_views_in_the_list(self):
        for book in (example(), putting(), right_by_two()):
            for n in (1, 2, 3, 4):
                seen = set().union(*[had(moment, 3) for moment in all_moments(book, n)])
                for k in (1, 2, 3):
                    word, found = views(book, k)[:2]
                    if word == "closed":
                        self.assertLessEqual({view for view in seen if len(view[1]) <= k}, set(found))

    def test_more_others_tell_more(self):
        self.assertEqual(views(right_by_two(), 1)[0], "wrong")
        self.closes(right_by_two(), 2, 26)
        self.closes(right_by_two(), 3, 47)
        self.assertEqual([views(right_by_three(), k)[0] for k in (1, 2)], ["wrong", "wrong"])
        self.closes(right_by_three(), 3, 148)

    def test_the_bound_is_3000(self):
        # Each other may have sent any of its letters: 2 ** many locals, and all sorts of parts of them.
        names = ["a", "b", "c", "d", "e"]

        def sending(many):
            return kit(states=[("no", "")] + [(name, "") for name in names], ups=[(name, False) for name in names],
                       wishes=[("no", "no", name) for name in names[:many]])
        for book, k, many in ((sending(5), 2, 561), (sending(4), 3, 969), (sending(5), 3, 6545)):
            if many <= 3000:
                self.assertEqual(views(book, k)[:2], ("wrong", "jam"))
            else:
                self.too_many(book, k, 3000)
                with self.assertRaises(TooMany) as caught:
                    views(book, k)
                self.assertEqual(caught.exception.most, 3000)
            self.assertEqual(views(book, k, most=many)[:2], ("wrong", "jam"))
            self.too_many(book, k, many - 1)

    def test_the_greatest_bound(self):
        for k in (1, 2, 3):
            with self.assertRaises(TooMany) as caught:
                views(made(full_parts()), k, most=20000)
            self.assertEqual(caught.exception.most, 20000)


class TestBad(ViewCase):

    def test_stale(self):
        for k in (1, 2, 3):
            kind, _ = self.is_bad(kit(wishes=[("no", "has", None)]), k, (3, 6, 10)[k - 1])
            self.assertEqual(kind, "stale")

    def test_a_jam_of_one(self):
        for k in (1, 2, 3):
            kind, _ = self.is_bad(kit(wishes=[("no", "no", "want")]), k, (3, 6, 10)[k - 1])
            self.assertEqual(kind, "jam")

    def test_a_jam_of_two_others(self):
        kind, (control, others) = self.is_bad(called_twice(), 1, 15)
        self.assertEqual((kind, control, len(others)), ("jam", START, 2))
        plain = naive_of(called_twice())
        self.assertTrue(all(not plain.wrong((control, (local,))) for local in others))
        for k in (2, 3):
            self.is_bad(called_twice(), k, len(plain.closed(k, 200)))

    def test_a_jam_with_the_owner(self):
        # Home calls the owner by a letter that is under way to it.
        parts = example_parts()
        parts["busies"] = [("take", "boss", "hand", "out", "yield", False)]
        plain = naive_of(made(parts))
        self.is_bad(made(parts), 1, len(plain.closed(1, 300)))

    def test_deaf(self):
        book = example(answers=example_parts()["answers"][:1])
        for k in (1, 2, 3):
            word, kind, view = views(book, k)
            self.assertEqual((word, kind), ("wrong", "deaf"))
            self.assertIn("deaf", naive_of(book).wrong(view))

    def test_wrong_only_with_more_caches(self):
        for k in (1, 2, 3):
            self.assertEqual(views(wrong_by_five(), k)[:2], ("wrong", "deaf"))

    def test_too_many_goes_ahead_of_wrong(self):
        book = kit(wishes=[("no", "has", None)])
        self.too_many(book, 1, 2)
        self.assertEqual(views(book, 1, most=3)[0], "wrong")


class TestArguments(unittest.TestCase):

    def test_from_left_to_right(self):
        for k in NO_VIEWS:
            for most in (3000, 0, None):
                with self.assertRaises(NoViews):
                    views(example(), k, most=most)
        for k in (1, 2, 3):
            for most in NO_MOST:
                with self.assertRaises(NoMost):
                    views(example(), k, most=most)
            with self.assertRaises(TooMany):
                views(example(), k, most=1)
        for k in odd_values():
            if k is not True and k == 1:
                continue
            with self.assertRaises(NoViews):
                views(example(), k, most=True)

    def test_what_is_returned_is_new(self):
        book = example()
        views(book, 1)[1].clear()
        self.assertEqual(len(views(book, 1)[1]), 36)
        self.assertIsNot(views(book, 1)[1], views(book, 1)[1])
        self.assertEqual(book, example())


if __name__ == "__main__":
    unittest.main()
