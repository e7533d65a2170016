"""Point [24]: the judge of lists of views."""

import unittest

from copybooks.errors import NoViews
from copybooks.forms import Forms
from copybooks.moments import first
from copybooks.viewjudge import closed_fault
from copybooks.views import views
from tests.naive_views import naive_of
from tests.samples import (
    called_twice, example, example_parts, full_parts, made, nested, odd_values, putting, right_by_three, right_by_two,
    shared_parts, small,
)
from tests.test_steps import kit
from tests.test_views import FREE, NO, NO_VIEWS, START, had, own

ASK = ("ask", "none", "out", (), ())
ASKED = ("ask", "none", "out", (("want", None),), ())
BOSS = ("own", "last", "boss", (), ())
TAKING = ("take", "last", None, ASK)


def closed(book, k):
    """The least closed list, which is not bad, in an order of its own."""
    word, found = views(book, k)
    assert word == "closed"
    return sorted(found, key=str)


def no_locals():
    """Values that are no locals of the example."""
    return odd_values() + [
        ["no", "none", "out", (), ()], ("no", "none", "out", ()), ("no", "none", "out", (), (), ()), ("none", "out", ()),
        ("yes", "none", "out", (), ()), ("out", "none", "out", (), ()), (["no"], "none", "out", (), ()),
        (None, "none", "out", (), ()), ("no", "last", "out", (), ()), ("no", "elder", "out", (), ()),
        ("ask", "last", "out", (), ()), ("own", "new", "out", (), ()), ("own", None, "out", (), ()),
        ("own", ["last"], "out", (), ()), ("own", "Last", "out", (), ()), ("own", True, "out", (), ()),
        ("no", "none", "no", (), ()), ("no", "none", None, (), ()), ("no", "none", {}, (), ()), ("no", None, "out", (), ()),
        ("no", "none", ["out"], (), ()), ("no", "none", "out", [], ()), ("no", "none", "out", (), []),
        ("no", "none", "out", None, ()), ("no", "none", "out", (), {}), ("no", "none", "out", "", ()),
        ("no", "none", "out", ("want", None), ()), ("no", "none", "out", (["want", None],), ()),
        ("no", "none", "out", (("want",),), ()), ("no", "none", "out", (("want", None, None),), ()),
        ("no", "none", "out", (("want", "none"),), ()), ("no", "none", "out", (("want", False),), ()),
        ("no", "none", "out", (("hand", None),), ()), ("no", "none", "out", (("hand", "new"),), ()),
        ("no", "none", "out", (("give", "last"),), ()), ("no", "none", "out", ((None, None),), ()),
        ("no", "none", "out", (({}, None),), ()), ("no", "none", "out", ((["want"], None),), ()),
        ("no", "none", "out", (("want", None), ("want", None)), ()), ("no", "none", "out", ("want",), ()),
        ("no", "none", "out", (("hand", "last"), ("want", None)), ()),
        ("no", "none", "out", (("hand", "last"), ("hand", "last")), ()),
        ("no", "none", "out", (), (("want", None),)), ("no", "none", "out", (), (("give", None),)),
        ("no", "none", "out", (), (("yield", "last"),)), ("no", "none", "out", (), (("yield", None), ("give", "last"))),
        ("no", "none", "out", nested((), 28), ()), (nested("no", 29), "none", "out", (), ()),
        ("no", "none", "out", (("want", nested(None, 28)),), ()), (example(), "none", "out", (), ()), first(example(), 1),
    ]


def no_controls():
    """Values that are no controls of the example."""
    return odd_values() + [
        [None, "last", None, None], (None, "last", None), (None, "last", None, None, None), ("none", "last", None, None),
        ("give", "last", None, ASK), ("asker", "last", None, ASK), (["take"], "last", None, ASK), ({}, "last", None, ASK),
        (None, None, None, None), (None, "new", None, None), (None, ["last"], None, None), (None, True, None, None),
        (None, "last", "asker", None), ("take", "last", "asker", None), ("take", "last", None, None),
        (None, "last", None, ASK), (None, "last", BOSS, ASK), (None, "last", "owner", None), (None, "last", 0, None),
        ("take", "last", 0, 1), ("take", "last", "Asker", ASK), ("take", "last", ["asker"], ASK), (0, "last", None, ASK),
        ("take", "last", None, "asker"), ("take", "last", "asker", "asker"), (True, "last", None, ASK),
    ] + [("take", "last", None, value) for value in no_locals() if value is not None] + [
        (None, "last", value, None) for value in no_locals() if value is not None] + [
        ("take", "last", value, ASK) for value in no_locals() if value is not None]


def no_views():
    """Values that are no views of the example, of any number of others."""
    return odd_values() + [
        [START, ()], (START,), (START, (), ()), ((), START), (START, []), (START, None), (START, NO), (START, {}),
        (START, "no"), (START, [NO]), (START, (NO, ASK)), (START, (BOSS, ASK, NO)), (START, (NO, NO, ASK)),
    ] + [(value, ()) for value in no_controls()] + [(START, (value,)) for value in no_locals()] + [
        (START, (NO, value)) for value in no_locals()]


class FaultCase(unittest.TestCase):

    def tells(self, book, k, thing, fault):
        kept = list(thing)
        self.assertEqual(closed_fault(book, k, thing), fault)
        self.assertEqual(naive_of(book).closed_fault(k, thing), fault)
        self.assertEqual(thing, kept)


class TestNone(FaultCase):

    def test_closed_lists(self):
        for book, k in [(example(), 1), (example(), 2), (example(), 3), (made(shared_parts()), 1), (putting(), 1),
                        (putting(), 2), (putting(), 3), (right_by_two(), 2), (right_by_two(), 3)]:
            self.tells(book, k, closed(book, k), None)
        for book, k in [(made(shared_parts()), 2), (made(shared_parts()), 3), (right_by_three(), 3)]:
            self.assertIsNone(closed_fault(book, k, closed(book, k)))

    def test_views_may_stand_twice(self):
        for k in (1, 2, 3):
            found = closed(putting(), k)
            self.tells(putting(), k, found + found[::-1], None)
            self.tells(putting(), k, found[:3] + found, None)

    def test_greater_lists_may_be_closed_too(self):
        # Nothing of the kit leads from these locals anywhere, nor is anything wrong with them.
        book = kit(wishes=[("no", "ask", None)])
        keep = ("keep", "elder", "has", (("want", None), ("hand", "last")), (("give", "none"),))
        self.tells(book, 1, [(START, (keep,))] + closed(book, 1), None)
        self.tells(book, 2, [(START, (keep,))] + closed(book, 2), None)
        self.tells(book, 1, [((None, "none", keep, None), ())] + closed(book, 1), None)
        self.tells(book, 1, [((None, "none", keep, None), (keep,))] + closed(book, 1), ("part", 0))
        self.tells(book, 1, [((None, "none", keep, None), (keep,)), ((None, "none", keep, None), ())] + closed(book, 1),
                   None)

    def test_the_facts_of_moments(self):
        # All moments of few caches are within the list, as it is closed.
        found = set(closed(example(), 2))
        rows = [first(example(), 4)]
        for moment in rows:
            self.assertLessEqual(had(moment, 2), found)
            rows += [after for after in map(moment.after, moment.steps()) if after not in rows]


class TestForm(FaultCase):

    def form(self, k, thing, book=None):
        self.assertEqual(closed_fault(book or example(), k, thing), ("form",))

    def test_no_list(self):
        found = closed(example(), 1)
        for thing in [value for value in odd_values() if not isinstance(value, list)] + [
                tuple(found), {0: found[0]}, set(found), found[0], dict.fromkeys(found)]:
            for k in (1, 2, 3):
                self.form(k, thing)

    def test_no_views(self):
        for value in no_views():
            for k in (1, 3):
                self.form(k, [value])
                self.form(k, closed(example(), k) + [value])

    def test_too_many_others(self):
        for k in (1, 2, 3):
            found = closed(example(), k)
            self.form(k, found + [(START, (NO,) * (k + 1))])
            self.form(k, [(START, (NO,) * 9)] + found)
            self.tells(example(), k, found + [(START, (NO,) * k)], None)

    def test_a_book_of_its_own(self):
        self.form(1, closed(made(shared_parts()), 1))
        self.form(1, closed(example(), 1), made(shared_parts()))
        self.form(1, closed(example(), 1) + closed(right_by_two(), 2))

    def test_form_goes_first(self):
        self.form(1, [None])
        self.form(1, [(START, (BOSS,)), None])
        self.form(2, [(START, (NO, ASK))])
        self.form(2, [(START, (NO,)), (START, (NO, ASK, ASK))])

    def test_forms_that_are_right(self):
        forms = Forms(made(full_parts()))
        rows = [
            ("no", "none", "out", (), ()), ("odd", "none", "out", (), ()), ("odd", "last", "boss", (), ()),
            ("has", "elder", "has", (("want", None),), ()), ("out", "none", "out", (("hand", "none"), ("drop", "elder")), ()),
            ("own", "last", "out", (("want", None), ("hand", "last"), ("drop", "none")),
             (("give", "elder"), ("yield", None), ("want", None))),
        ]
        for local in rows:
            for control in [(None, "none", None, None), (None, "elder", local, None), ("take", "last", None, local),
                            ("look", "last", "asker", local), ("give", "none", rows[0], local)]:
                self.assertTrue(forms.is_view((control, ())))
                self.assertTrue(forms.is_view((control, (local,) * 7)))
                self.assertTrue(forms.is_view((control, tuple(sorted(rows + [local])))))
                self.assertEqual(forms.is_view((control, tuple(rows))), rows == sorted(rows))


class TestFirst(FaultCase):

    def test_each_first_view(self):
        for k in (1, 2, 3):
            found = closed(example(), k)
            for many in range(k + 1):
                view = (START, (NO,) * many)
                self.tells(example(), k, [row for row in found if row != view], ("first",))
            self.tells(example(), k, [], ("first",))
            self.tells(example(), k, [(START, ())], ("first",))

    def test_first_goes_ahead_of_the_others(self):
        stale = (START, (("own", "elder", "out", (), ()),))
        self.tells(example(), 1, [stale, (START, ())], ("first",))
        self.tells(example(), 2, [(START, (ASK, ASK))], ("first",))
        self.tells(example(), 1, [stale, (START, ()), (START, (NO,))], ("wrong", 0))

    def test_only_the_first_views(self):
        for k in (1, 2, 3):
            firsts = [(START, (NO,) * many) for many in range(k + 1)]
            self.tells(small(), k, firsts, None)
            self.tells(small(), k, firsts[::-1], None)
            # Ahead of the last one all views stand beside one that may ask.
            self.tells(example(), k, firsts, ("open", 0))


class TestOpen(FaultCase):

    def test_each_view_that_is_lacking(self):
        for book, k in ((example(), 1), (putting(), 1), (putting(), 2), (right_by_two(), 2)):
            found = closed(book, k)
            words = set()
            for at in range(len(found)):
                thing = found[:at] + found[at + 1:]
                fault = closed_fault(book, k, thing)
                self.assertIsNotNone(fault)
                self.tells(book, k, thing, fault)
                self.tells(book, k, thing[::-1], closed_fault(book, k, thing[::-1]))
                words |= {fault[0]}
            self.assertEqual(words, {"first", "open", "part"})

    def test_told_twice_or_lacking_twice(self):
        found = closed(example(), 1)
        at = found.index((TAKING, (ASKED,)))
        less = found[:at] + found[at + 1:]
        word, index = closed_fault(example(), 1, less)
        self.assertEqual(word, "open")
        self.tells(example(), 1, less, (word, index))
        self.tells(example(), 1, less[index:index + 1] * 3 + less, ("open", 0))
        self.tells(example(), 1, less[:index] + less[:index] + less[index:], ("open", 2 * index))
        self.tells(example(), 1, less + less, (word, index))

    def test_by_a_step_of_one_other(self):
        book = kit(wishes=[("no", "ask", None)])
        firsts = [(START, ()), (START, (NO,))]
        # The moment of no others beside one more is the moment of the other view.
        self.tells(book, 1, firsts, ("open", 0))
        self.tells(book, 1, firsts[::-1], ("open", 0))
        ask = (START, (ASK,))
        self.tells(book, 1, firsts + [ask], None)
        rows = firsts + [ask, (START, (NO, NO))]
        self.tells(book, 2, rows, ("open", 1))
        self.tells(book, 2, [(START, ()), ask] + rows, ("open", 3))
        self.tells(book, 2, rows + [(START, (ASK, NO))], ("open", 1))
        self.tells(book, 2, rows + [(START, (ASK, ASK))], ("open", 1))
        self.tells(book, 2, rows + [(START, (ASK, ASK)), (START, (ASK, NO))], None)

    def test_seen_only_with_two_others_of_one_view(self):
        # A put of one other makes the last put of the other one an elder one.
        found = [view for view in closed(putting(), 1) if view != (FREE, (own("elder"),))]
        rows = sorted(found, key=lambda view: (view[0] == FREE, len(view[1])))
        fault = ("open", rows.index((FREE, (own("last"),))))
        without_puts = [view for view in rows if view[1] not in ((own("none"),), (own("last"),))]
        self.tells(putting(), 1, rows, min(fault, ("open", rows.index((FREE, (own("none"),))))))
        self.tells(putting(), 1, without_puts, ("open", 0))

    def test_seen_only_by_a_task_that_calls_two(self):
        for k in (1, 2):
            plain = naive_of(right_by_three())
            rows = sorted(plain.closed(k, 100), key=str)
            lacking = [view for view in rows if view[0][0] is not None and len(view[1]) == k]
            self.assertTrue(lacking)
            for view in lacking[::5]:
                thing = [row for row in rows if row != view]
                self.tells(right_by_three(), k, thing, plain.closed_fault(k, thing))

    def test_no_step_leads_back_out_of_a_list_that_is_not_least(self):
        # A cache of the added view may be served, and the views behind that are lacking.
        view = (("take", "elder", "asker", ASK), ())
        self.tells(example(), 1, closed(example(), 1) + [view], ("open", len(closed(example(), 1))))


class TestPart(FaultCase):

    def test_parts_of_the_others(self):
        found = closed(example(), 3)
        for view in ((TAKING, (ASKED, NO)), (TAKING, (ASKED,)), (TAKING, (NO, NO)), (TAKING, ())):
            thing = [row for row in found if row != view]
            greater = [at for at, (control, others) in enumerate(thing)
                       if control == TAKING and set(view[1]) <= set(others) and len(others) > len(view[1])
                       and all(others.count(one) >= view[1].count(one) for one in view[1])]
            fault = closed_fault(example(), 3, thing)
            self.tells(example(), 3, thing, fault)
            rows = [thing[at] for at in greater] + thing
            self.tells(example(), 3, rows, ("part", 0))

    def test_a_view_with_some_part_lacking_shows_nothing_else(self):
        # It is stale, and leads out of the list; but the list does not have its moment.
        stale = ("own", "elder", "out", (), ())
        found = closed(example(), 2)
        self.tells(example(), 2, [(START, (NO, stale))] + found, ("part", 0))
        self.tells(example(), 2, [(START, (NO, stale)), (START, (stale,))] + found, ("wrong", 0))
        self.tells(example(), 1, [((None, "none", None, None), (stale,))] + closed(example(), 1), ("part", 0))
        self.tells(example(), 1, [((None, "none", None, None), (stale,)), ((None, "none", None, None), ())]
                   + closed(example(), 1), ("wrong", 0))

    def test_a_moment_needs_all_its_views(self):
        # The two others jam beside one another, but the list does not have them both in one view.
        first_one = ("ask", "none", "out", (("want", None),), ())
        second = ("no", "none", "out", (), (("call", None),))
        base = [(START, ()), (START, (NO,)), (START, (NO, NO)), (START, (first_one,)), (START, (second,))]
        self.tells(called_twice(), 2, base, ("open", 0))
        self.tells(called_twice(), 2, base[3:] + base, ("open", 0))
        self.tells(called_twice(), 2, [(START, (first_one, second))] + base, ("wrong", 0))
        self.tells(called_twice(), 2, base[1:] + [(START, (first_one, second)), (START, ())], ("open", 0))
        self.tells(called_twice(), 2, base[3:] + base + [(START, (first_one, second))], ("wrong", 0))
        self.tells(called_twice(), 1, [(START, (first_one,)), (START, ()), (START, (NO,)), (START, (second,))],
                   ("wrong", 0))
        self.tells(called_twice(), 1, [(START, (second,)), (START, ()), (START, (NO,)), (START, (first_one,))],
                   ("wrong", 0))
        self.tells(called_twice(), 1, [(START, (NO,)), (START, ()), (START, (second,)), (START, (first_one,))],
                   ("open", 0))


class TestWrong(FaultCase):

    def test_wrong_goes_ahead_of_open(self):
        book = kit(wishes=[("no", "has", None)])
        has = ("has", "none", "out", (), ())
        self.tells(book, 1, [(START, ()), (START, (NO,))], ("open", 0))
        self.tells(book, 1, [(START, (NO,)), (START, ()), (START, (has,))], ("wrong", 0))
        self.tells(book, 2, [(START, (NO,)), (START, ()), (START, (NO, NO)), (START, (has,))], ("open", 0))
        self.tells(book, 2, [(START, (NO,)), (START, ()), (START, (NO, NO)), (START, (has,)), (START, (has, NO))],
                   ("wrong", 0))

    def test_wrong_of_one_local_more(self):
        stale = ("own", "elder", "out", (), ())
        for k in (1, 2, 3):
            found = closed(example(), k)
            at = found.index((START, ()))
            fault = closed_fault(example(), k, found + [(START, (stale,))])
            self.assertEqual(fault[0], "wrong")
            self.assertLessEqual(fault[1], at)
            self.tells(example(), k, found + [(START, (stale,))], fault)

    def test_bad_lists(self):
        for book in (called_twice(), kit(wishes=[("no", "no", "want")]), example(answers=example_parts()["answers"][:1])):
            for k in (1, 2):
                thing = sorted(naive_of(book).closed(k, 300), key=str)
                for rows in (thing, thing[::-1], thing[1::2] + thing[::2]):
                    fault = closed_fault(book, k, rows)
                    self.assertEqual(fault[0], "wrong")
                    self.tells(book, k, rows, fault)

    def test_the_end_of_a_task_that_jams(self):
        # The end would jam, but beside a local that is not quiet it cannot be taken.
        book = kit(wishes=[("no", "ask", "want")], idles=[("out", "want", "take")],
                   tasks=[("take", [("out", None), ("has", None), ("boss", None)], ["out"], ["out", "has", "boss"], "out",
                           "give", "stays")], busies=[("take", "has", "hand", "out", None, False)])
        jams = ("take", "last", None, ("ask", "none", "out", (), (("give", "last"),)))
        waits = ("ask", "none", "has", (("hand", "none"),), ())
        firsts = [(START, ()), (START, (NO,))]
        self.tells(book, 1, [(jams, ())] + firsts, ("wrong", 0))
        self.tells(book, 1, [(jams, (waits,)), (jams, ())] + firsts, ("open", 0))
        self.tells(book, 1, [(jams, (NO,)), (jams, ())] + firsts, ("wrong", 0))
        self.tells(book, 1, [(jams, (waits,)), (jams, (NO,)), (jams, ())] + firsts, ("open", 0))


class TestArguments(unittest.TestCase):

    def test_from_left_to_right(self):
        for k in NO_VIEWS:
            for thing in (None, [], [None], [(START, ())]):
                with self.assertRaises(NoViews):
                    closed_fault(example(), k, thing)
        for k in odd_values():
            if k != 1 or k is True:
                with self.assertRaises(NoViews):
                    closed_fault(example(), k, None)


if __name__ == "__main__":
    unittest.main()
