"""Points [9] to [16]: moments, what is wrong at them, and runs."""

import copy
import unittest

from copybooks.books import Book
from copybooks.errors import NoMany, NoRun, NoStep
from copybooks.moments import Moment, first, played
from tests.samples import PARTS, example, example_parts, full_parts, made, nested, odd_values
from tests.test_steps import StepCase, kit, task

RUN = [("wish", 0, 0), ("take", 0, "want"), ("end",), ("answer", 0, "give"), ("put", 0)]


def no_steps():
    """Values that are no steps, whatever the book."""
    found = odd_values() + [
        ("end", 0), ("end", None), ["end"], "end", ("End",), ("ends",), (("end",),), (None,), ("put",), ("wish",),
        ("put", 0, 0), ("put", True), ("put", False), ("put", -1), ("put", 6), ("put", None), ("put", "0"),
        ["put", 0], ("put", (0,)), ("put", [0]), ("wish", 0), ("wish", 0, 0, 0), ("wish", True, 0), ("wish", False, 0),
        ("wish", 0, False), ("wish", 0, True), ("wish", 0, -1), ("wish", -1, 0), ("wish", 0, 30), ("wish", 6, 0),
        ("wish", 0, None), ("wish", 0, "want"), ("wish", "0", 0), ["wish", 0, 0], ("wish", (0, 0)), ("wish", 0, [0]),
        ("take", 0), ("take", 0, 0), ("take", 0, None), ("take", 0, "want", 0), ("take", False, "want"),
        ("take", 0, ""), ("take", 0, "Want"), ("take", 0, ["want"]), ("take", 0, ("want",)), ["take", 0, "want"],
        ("take", "want", 0), ("answer", 0), ("answer", 0, True), ("answer", 0, None), ("answer", True, "give"),
        ("answer", 0, "toolongname"), ("answer", 0, "give", None), ("", 0, 0), ("go", 0, 0), (0, 0, 0), (True,),
        nested(("wish", 0, 0), 30), ("wish", nested(0, 30), 0), ("wish", 0, nested(0, 60)), (nested("end", 30),),
        ("wish", 0, 10 ** 40), ("put", 10 ** 40), (example(),), ("put", example()), ("take", 0, example()),
        (first(example(), 1), 0, 0), first(example(), 1), {"end": 0}, ({},), ("take", 0, {}),
    ]
    return found


def steps_of_no_moment():
    """Steps that can never be taken in the example, though they have the form."""
    return [("wish", 5, 0), ("wish", 1, 1), ("wish", 0, 29), ("take", 0, "give"), ("take", 0, "zzzzzzzz"),
            ("answer", 0, "want"), ("answer", 0, "nothing"), ("put", 5), ("take", 5, "want"), ("answer", 3, "give")]


class TestFirst(unittest.TestCase):

    def test_each_number(self):
        for n in range(1, 7):
            moment = first(example(), n)
            self.assertIsInstance(moment, Moment)
            self.assertEqual(moment.home(), (None, "last", None, None))
            self.assertEqual(moment.caches(), [("no", "none", "out", (), ())] * n)
            self.assertEqual(moment.wrongs(), [])
            self.assertEqual(moment.steps(), [("wish", i, 0) for i in range(n)])

    def test_the_first_state_and_mark(self):
        moment = first(kit(states=[("zz", ""), ("aa", "h")], marks=["zz", "aa"], tasks=[
            ("take", [("aa", None)] * 2, ["aa"], ["aa"] * 2, "aa", None, "none")]), 1)
        self.assertEqual(moment.caches(), [("zz", "none", "zz", (), ())])

    def test_wrong_numbers(self):
        for n in [0, 7, -1, 10 ** 30, True, False, None, "1", [1], (1,), {}, example(), nested(1, 30), []]:
            with self.assertRaises(NoMany):
                first(example(), n)

    def test_the_book(self):
        book = made(full_parts())
        moment = first(book, 2)
        self.assertIsInstance(moment.book(), Book)
        self.assertEqual(moment.book(), book)
        self.assertEqual(moment.after(moment.steps()[0]).book(), book)


class TestKinds(StepCase):

    def test_values(self):
        moment = played(first(example(), 2), RUN)
        for now in (first(example(), 2), moment):
            self.assertIs(type(now.home()), tuple)
            self.assertIs(type(now.caches()), list)
            self.assertIs(type(now.steps()), list)
            self.assertIs(type(now.wrongs()), list)
            for local in now.caches():
                self.assertEqual([type(one) for one in local], [str, str, str, tuple, tuple])

    def test_flags_are_no_owners(self):
        moment = played(first(example(), 2), RUN)
        self.assertIs(type(moment.home()[2]), int)
        asked = played(first(example(), 2), RUN[:2])
        self.assertIs(type(asked.home()[3]), int)

    def test_returned_lists_are_new(self):
        moment = played(first(example(), 2), RUN)
        home, caches, steps = moment.home(), moment.caches(), moment.steps()
        for rows in (moment.caches(), moment.steps(), moment.wrongs()):
            rows.clear()
            rows.append(None)
        self.assertEqual((moment.home(), moment.caches(), moment.steps(), moment.wrongs()), (home, caches, steps, []))
        self.assertEqual(moment, played(first(example(), 2), RUN))

    def test_a_moment_does_not_change(self):
        moment = first(example(), 3)
        before = (moment.home(), moment.caches(), moment.steps(), moment.wrongs())
        for step in moment.steps():
            moment.after(step)
        for step in no_steps() + steps_of_no_moment():
            with self.assertRaises(NoStep):
                moment.after(step)
        self.assertEqual((moment.home(), moment.caches(), moment.steps(), moment.wrongs()), before)
        self.assertEqual(moment, first(example(), 3))


class TestOrder(StepCase):

    def test_wishes_answers_takes_put_end(self):
        book = kit(
            ups=[("want", False), ("hand", True), ("an", False)], downs=[("give", True), ("yield", False), ("an", True)],
            wishes=[("no", "own", "want"), ("own", "own", "hand"), ("own", "own", "an"), ("own", "keep", None),
                    ("own", "own", "want")],
            answers=[("own", "yield", "no", None), ("own", "an", "no", None), ("own", "give", "no", None)],
            idles=[("out", "an", "take"), ("out", "hand", "out", "give", False), ("out", "want", "out", "an", False)],
            busies=[("take", "out", "an", "out", None, False), ("take", "out", "want", "out", "yield", False),
                    ("take", "out", "hand", "out", "give", False)])
        run = [("wish", 0, 0), ("take", 0, "want"), ("wish", 0, 1), ("take", 0, "hand"), ("wish", 1, 0),
               ("wish", 0, 2), ("take", 0, "an"), ("wish", 1, 2), ("take", 1, "want"), ("wish", 1, 1), ("wish", 1, 4)]
        self.assertEqual(self.behind(book, 2, run).steps(), [
            ("wish", 0, 1), ("wish", 0, 2), ("wish", 0, 3), ("wish", 0, 4), ("answer", 0, "give"), ("answer", 0, "an"),
            ("put", 0),
            ("wish", 1, 3), ("answer", 1, "yield"), ("take", 1, "hand"), ("take", 1, "an"), ("put", 1),
            ("end",)])
        self.assertEqual(self.behind(book, 2, run).wrongs(), [
            ("stale", 0), ("stale", 1), ("jam", ("wish", 1, 1)), ("jam", ("wish", 1, 2)), ("jam", ("wish", 1, 4)),
            ("jam", ("take", 1, "want"))])

    def test_each_step_of_the_list_can_be_taken(self):
        moment = first(made(full_parts()), 3)
        for _ in range(12):
            steps = moment.steps()
            self.assertEqual(len(steps), len(set(steps)))
            behind = [moment.after(step) for step in steps]
            moment = behind[len(behind) // 2]


class TestAfter(StepCase):

    def test_no_steps(self):
        for moment in (first(example(), 2), played(first(example(), 2), RUN)):
            for value in no_steps() + steps_of_no_moment():
                with self.assertRaises(NoStep):
                    moment.after(value)

    def test_flags_are_no_integers_even_where_the_step_is_in_the_list(self):
        moment = first(example(), 2)
        self.assertIn(("wish", True, 0), moment.steps())
        for step in [("wish", True, 0), ("wish", False, 0), ("wish", 0, False), ("wish", 1, False)]:
            with self.assertRaises(NoStep):
                moment.after(step)
        own = played(first(example(), 2), RUN[:4])
        self.assertEqual(own.after(("put", 0)).home()[1], "elder")
        with self.assertRaises(NoStep):
            own.after(("put", False))

    def test_caches_that_are_not_there(self):
        for n in range(1, 7):
            moment = first(example(), n)
            for i in range(6):
                if i < n:
                    self.assertEqual(moment.after(("wish", i, 0)).caches()[i][0], "ask")
                else:
                    self.never(moment, ("wish", i, 0))

    def test_a_list_handed_in_stays(self):
        value = ["wish", 0, 0]
        with self.assertRaises(NoStep):
            first(example(), 1).after(value)
        self.assertEqual(value, ["wish", 0, 0])


class TestStale(StepCase):

    def test_only_where_a_cache_may_read(self):
        states = [("no", ""), ("a", "h"), ("b", "hr"), ("c", "hp"), ("d", "hrp"), ("e", "hrpw"), ("f", "w"), ]
        book = kit(states=states, wishes=[("no", name, None) for name, _ in states])
        for index, (_, traits) in enumerate(states):
            now = self.behind(book, 2, [("wish", 1, index)])
            self.assertEqual(now.wrongs(), [("stale", 1)] if "r" in traits else [])

    def test_what_was_last_is_not(self):
        book = kit(wishes=[("no", "own", None), ("own", "has", None)])
        now = self.behind(book, 3, [("wish", 2, 0), ("put", 2), ("wish", 1, 0)])
        self.assertEqual(now.wrongs(), [("stale", 1)])
        now = now.after(("put", 1))
        self.assertEqual(now.wrongs(), [("stale", 2)])
        now = played(now, [("put", 2), ("wish", 2, 1), ("wish", 0, 0)])
        self.assertEqual(now.wrongs(), [("stale", 0), ("stale", 1)])
        self.assertEqual([local[1] for local in now.caches()], ["none", "elder", "last"])


class TestDeaf(StepCase):

    def called(self, n=2, **changes):
        """Cache 1 has the mark boss, which is not quiet, in a task that cache 0 has asked for."""
        parts = {
            "wishes": [("no", "no", "want"), ("no", "own", None), ("no", "ask", "hand"), ("no", "ask", None),
                       ("ask", "ask", "want")],
            "tasks": [task("take", calls=[("boss", "yield"), ("has", None), ("boss", None)])],
            "idles": [("out", "want", "take")], **changes,
        }
        return self.behind(kit(**parts), n, [("wish", 0, 0), ("take", 0, "want")])

    def test_no_answer_and_no_rule(self):
        self.assertEqual(self.called().wrongs(), [("deaf", 1)])
        self.assertEqual(self.called(n=4).wrongs(), [("deaf", 1), ("deaf", 2), ("deaf", 3)])
        self.assertEqual(self.called(answers=[("no", "yield", "no", "hand")]).wrongs(), [("deaf", 1)])
        busies = [("take", "boss", "hand", "out", None, False)]
        self.assertEqual(self.called(busies=busies).wrongs(), [("deaf", 1)])

    def test_an_answer_and_a_take_lead_to_a_quiet_mark(self):
        now = self.called(answers=[("no", "yield", "no", "hand")], busies=[("take", "boss", "hand", "out", None, False)])
        self.assertEqual(now.wrongs(), [])
        now = now.after(("answer", 1, "yield"))
        self.assertEqual(now.wrongs(), [("jam", ("wish", 1, 2))])
        self.assertEqual(now.after(("take", 1, "hand")).wrongs(), [])

    def test_the_answer_hangs_on_the_state(self):
        now = self.called(answers=[("no", "yield", "no", "hand")], busies=[("take", "boss", "hand", "out", None, False)])
        self.assertEqual(now.after(("wish", 1, 1)).wrongs(), [("stale", 1), ("deaf", 1)])

    def test_a_wish_does_not_help(self):
        busies = [("take", "boss", "hand", "out", None, False)]
        now = self.called(busies=busies)
        self.assertIn(("wish", 1, 2), now.steps())
        self.assertEqual(now.wrongs(), [("deaf", 1)])
        self.assertEqual(now.after(("wish", 1, 2)).wrongs(), [])

    def test_a_put_and_the_end_do_not_help(self):
        now = self.called(answers=[("own", "give", "no", "hand")], busies=[("take", "boss", "hand", "out", None, False)])
        now = played(now, [("wish", 1, 1), ("put", 1)])
        self.assertEqual(now.wrongs(), [("deaf", 1)])

    def test_only_busies_of_this_task(self):
        tasks = [task("take", calls=[("boss", "yield"), ("has", None), ("boss", None)]), task("look")]
        for busies, idles in [([("look", "boss", "hand", "out", None, False)], []),
                              ([], [("boss", "hand", "out", None, False)]), ([("take", "out", "hand", "out", None, True)], [])]:
            now = self.called(answers=[("no", "yield", "no", "hand")], busies=busies, tasks=tasks,
                              idles=[("out", "want", "take"), *idles])
            self.assertEqual(now.wrongs(), [("deaf", 1)])

    def test_several_letters_both_ways(self):
        now = self.called(answers=[("no", "yield", "ask", "hand"), ("ask", "give", "no", "want")],
                          busies=[("take", "boss", "hand", "has", "give", False), ("take", "has", "want", "out", None, False)])
        self.assertEqual(now.wrongs(), [])
        for step in [("answer", 1, "yield"), ("take", 1, "hand"), ("answer", 1, "give"), ("take", 1, "want")]:
            now = now.after(step)
            self.assertNotIn(("deaf", 1), now.wrongs())
        self.assertEqual(now.caches()[1], ("no", "none", "out", (), ()))
        now = self.called(answers=[("no", "yield", "ask", "hand")],
                          busies=[("take", "boss", "hand", "has", "give", False), ("take", "has", "want", "out", None, False)])
        self.assertEqual(now.wrongs(), [("deaf", 1)])

    def test_a_row_that_jams_does_not_count(self):
        parts = {"answers": [("no", "yield", "no", "want")], "busies": [("take", "boss", "want", "out", None, False)]}
        self.assertEqual(self.called(**parts).wrongs(), [])
        run = [("wish", 1, 0), ("wish", 0, 0), ("take", 0, "want")]
        moment = first(self.called(**parts).book(), 2)
        self.assertEqual(played(moment, run).wrongs(), [("jam", ("wish", 1, 0)), ("jam", ("answer", 1, "yield"))])
        parts["busies"] = [("take", "boss", "want", "has", None, False), ("take", "has", "want", "out", None, False)]
        self.assertEqual(self.called(**parts).wrongs(), [("deaf", 1)])
        moment = first(self.called(**parts).book(), 2)
        # The letter under way is taken first; then the answer's letter does not jam.
        self.assertEqual(played(moment, run).wrongs(), [("jam", ("wish", 1, 0)), ("jam", ("answer", 1, "yield"))])
        parts["answers"] = [("no", "yield", "no", "want"), ("ask", "yield", "ask", "hand")]
        parts["busies"] = [("take", "boss", "hand", "out", "yield", False)]
        moment = played(first(self.called(**parts).book(), 2), [("wish", 1, 2), ("wish", 0, 0), ("take", 0, "want")])
        # The reply would jam while the call is under way, and to answer the call jams behind the first letter.
        self.assertEqual(moment.wrongs(), [("jam", ("answer", 1, "yield")), ("jam", ("take", 1, "hand")), ("deaf", 1)])

    def test_the_order_in_which_moments_are_asked_plays_no_part(self):
        parts = {"answers": [("no", "yield", "no", "hand")], "busies": [("take", "boss", "hand", "out", None, False)]}
        now = self.called(**parts)
        later = now.after(("answer", 1, "yield"))
        self.assertNotIn(("deaf", 1), later.wrongs())
        self.assertNotIn(("deaf", 1), now.wrongs())
        self.assertNotIn(("deaf", 1), self.called(**parts).wrongs())
        parts["busies"] = []
        now = self.called(**parts)
        self.assertIn(("deaf", 1), now.after(("answer", 1, "yield")).wrongs())
        self.assertIn(("deaf", 1), now.wrongs())

    def test_rows_that_go_round(self):
        round_about = [("take", "boss", "hand", "has", "yield", False), ("take", "has", "hand", "boss", "yield", False)]
        answers = [("no", "yield", "no", "hand")]
        now = self.called(answers=answers, busies=round_about)
        run = [("answer", 1, "yield"), ("take", 1, "hand")] * 2
        self.assertEqual(played(now, run), now)
        self.assertIn(("deaf", 1), now.wrongs())
        way_out = ("take", "boss", "want", "out", None, False)
        self.assertIn(("deaf", 1), self.called(answers=answers, busies=round_about + [way_out]).wrongs())
        book = self.called(answers=answers, busies=round_about + [way_out]).book()
        now = played(first(book, 2), [("wish", 1, 0), ("wish", 0, 0), ("take", 0, "want")])
        for step in run:
            self.assertNotIn(("deaf", 1), now.wrongs())
            now = now.after(step)

    def test_a_quiet_mark_is_not_deaf(self):
        now = self.called(tasks=[task("take", calls=[("boss", None), ("has", None), ("boss", None)], quiet=["boss"])])
        self.assertEqual(now.wrongs(), [])

    def test_the_asker_and_no_task(self):
        now = self.called(n=1)
        self.assertEqual(now.home(), ("take", "last", None, 0))
        self.assertEqual(now.wrongs(), [])
        run = [("wish", 0, 0), ("take", 0, "want"), ("end",)]
        now = self.behind(kit(wishes=[("no", "no", "want")], tasks=[task("take", ends=["boss"] * 3)],
                              idles=[("out", "want", "take"), ("boss", "want", "take")]), 2, run)
        self.assertEqual([local[2] for local in now.caches()], ["boss", "boss"])
        self.assertEqual(now.wrongs(), [])
        now = played(now, run[:2])
        self.assertEqual(now.wrongs(), [("deaf", 1)])

    def test_data_and_the_owner_play_no_part(self):
        calls = [("boss", "give"), ("boss", "give"), ("boss", "give")]
        book = kit(wishes=[("no", "own", "want"), ("own", "own", "hand")],
                   tasks=[task("take", calls=calls, quiet=["has"], owner="asker")], idles=[("out", "want", "take")],
                   answers=[("own", "give", "no", "want")], busies=[("take", "boss", "want", "has", None, True)])
        now = self.behind(book, 1, [("wish", 0, 0), ("take", 0, "want"), ("end",), ("put", 0)])
        self.assertEqual((now.home(), now.wrongs()), ((None, "elder", 0, None), []))
        for n, run in [(2, []), (2, [("put", 0)]), (2, [("put", 0), ("wish", 0, 1)])]:
            now = self.behind(book, n, [("wish", 0, 0), *run, ("wish", 1, 0), ("take", 1, "want")])
            self.assertNotIn(("deaf", 0), now.wrongs())

    def test_example(self):
        for run in [RUN, RUN + [("wish", 1, 0)], RUN + [("wish", 1, 0), ("take", 1, "want")],
                    RUN + [("wish", 1, 0), ("take", 1, "want"), ("answer", 0, "yield")]]:
            self.assertEqual(self.behind(example(), 3, run).wrongs(), [])
        dull = example(answers=example_parts()["answers"][:1])
        now = self.behind(dull, 3, RUN + [("wish", 1, 0), ("take", 1, "want")])
        self.assertEqual(now.wrongs(), [("deaf", 0)])


class TestWrongs(StepCase):

    def test_order(self):
        book = kit(
            wishes=[("no", "has", "want"), ("has", "has", "hand"), ("has", "own", "want")],
            tasks=[task("take", calls=[("has", "give"), ("has", "give"), ("boss", None)], quiet=["out"], down="give")],
            idles=[("out", "want", "take"), ("out", "hand", "out", "give", False)],
            busies=[("take", "has", "hand", "has", "give", False)], answers=[("has", "give", "has", "want")])
        run = [("wish", i, 0) for i in (0, 1, 2)] + [("take", 0, "want")]
        run += [("wish", 2, 1), ("wish", 1, 1), ("wish", 0, 1)]
        self.assertEqual(self.behind(book, 3, run).wrongs(), [
            ("stale", 0), ("stale", 1), ("stale", 2), ("jam", ("wish", 0, 1)),
            ("jam", ("wish", 1, 1)), ("jam", ("wish", 1, 2)), ("jam", ("answer", 1, "give")), ("jam", ("take", 1, "hand")),
            ("jam", ("wish", 2, 1)), ("jam", ("wish", 2, 2)), ("jam", ("answer", 2, "give")), ("jam", ("take", 2, "hand")),
            ("deaf", 1), ("deaf", 2)])

    def test_the_jam_of_the_end_stands_last_of_the_jams(self):
        book = kit(wishes=[("no", "has", "hand"), ("has", "has", "want"), ("has", "has", "hand")],
                   tasks=[task("take", down="give", quiet=["out", "has"])],
                   idles=[("out", "want", "take"), ("out", "hand", "out", "give", False)])
        run = [("wish", 0, 0), ("take", 0, "hand"), ("wish", 0, 1), ("take", 0, "want"), ("wish", 1, 0)]
        self.assertEqual(self.behind(book, 2, run).wrongs(), [
            ("stale", 0), ("stale", 1), ("jam", ("wish", 1, 2)), ("jam", ("end",))])

    def test_steps_go_on_behind_what_is_wrong(self):
        book = kit(wishes=[("no", "has", "want"), ("has", "has", "want"), ("has", "no", None)])
        now = self.behind(book, 1, [("wish", 0, 0)])
        self.assertEqual(now.wrongs(), [("stale", 0), ("jam", ("wish", 0, 1))])
        self.assertEqual(now.steps(), [("wish", 0, 2)])
        self.assertEqual(now.after(("wish", 0, 2)).wrongs(), [("jam", ("wish", 0, 0))])


class TestEquality(StepCase):

    def test_equal(self):
        self.assertTrue(first(example(), 2) == first(example(), 2))
        self.assertFalse(first(example(), 2) != first(example(), 2))
        one = played(first(example(), 2), RUN)
        other = played(first(example(), 2), [("wish", 1, 0)] + RUN)
        self.assertFalse(one == other)
        self.assertTrue(other == played(first(example(), 2), RUN + [("wish", 1, 0)]))
        self.assertTrue(one == one.after(("put", 0)))

    def test_each_part(self):
        base = first(example(), 2)
        self.assertFalse(base == first(example(), 3))
        self.assertFalse(base == first(example(wishes=[]), 2))
        self.assertFalse(base == base.after(("wish", 0, 0)))
        self.assertFalse(base.after(("wish", 0, 0)) == base.after(("wish", 1, 0)))
        self.assertTrue(base == first(made({part: example_parts()[part] for part in PARTS}), 2))

    def test_home(self):
        tasks = [task("take", owner="asker", mark="out"), task("look", mark="out"),
                 task("give", owner="none", mark="out")]
        book = kit(wishes=[("no", "no", "want"), ("no", "no", "hand"), ("no", "no", "an"), ("no", "own", None),
                           ("own", "no", None)],
                   ups=[("want", False), ("hand", False), ("an", False)], tasks=tasks,
                   idles=[("out", "want", "take"), ("out", "hand", "look"), ("out", "an", "give")])
        look = self.behind(book, 2, [("wish", 0, 1), ("take", 0, "hand")])
        same = self.behind(book, 2, [("wish", 1, 1), ("take", 1, "hand")])
        give = self.behind(book, 2, [("wish", 0, 2), ("take", 0, "an")])
        self.assertEqual(look.caches(), same.caches())
        self.assertEqual(look.caches(), give.caches())
        self.assertFalse(look == same)
        self.assertFalse(look == give)
        self.assertFalse(look == first(book, 2))
        owned = self.behind(book, 2, [("wish", 0, 0), ("take", 0, "want"), ("end",)])
        other = self.behind(book, 2, [("wish", 1, 0), ("take", 1, "want"), ("end",)])
        self.assertEqual(owned.caches(), first(book, 2).caches())
        self.assertFalse(owned == first(book, 2))
        self.assertFalse(owned == other)
        self.assertTrue(look.after(("end",)) == first(book, 2))
        elder = self.behind(book, 2, [("wish", 0, 3), ("put", 0), ("wish", 0, 4)])
        self.assertEqual(elder.caches(), first(book, 2).caches())
        self.assertFalse(elder == first(book, 2))

    def test_other_values(self):
        moment = first(example(), 1)
        for value in odd_values() + [(moment.home(), moment.caches()), moment.home(), moment.caches()]:
            self.assertIs(moment == value, False)
            self.assertIs(value == moment, False)
            self.assertIs(moment != value, True)


class TestPlayed(StepCase):

    def test_runs(self):
        moment = first(example(), 2)
        self.assertEqual(played(moment, []), moment)
        now = moment
        for many, step in enumerate(RUN, 1):
            now = now.after(step)
            self.assertEqual(played(moment, RUN[:many]), now)
        self.assertEqual(played(played(moment, RUN[:3]), RUN[3:]), now)

    def test_no_list(self):
        for value in odd_values() + [tuple(RUN), "end", ("end",), {0: ("end",)}, first(example(), 1)]:
            if isinstance(value, list):
                continue
            with self.assertRaises(NoRun) as caught:
                played(first(example(), 2), value)
            self.assertEqual(caught.exception.index, -1)

    def test_the_first_wrong_item(self):
        for value in no_steps() + steps_of_no_moment() + [("end",), ("take", 1, "want")]:
            for many in (0, 2, 3, 5):
                if value == ("end",) and many == 2:
                    continue
                run = RUN[:many] + [value, None]
                kept = list(run)
                with self.assertRaises(NoRun) as caught:
                    played(first(example(), 2), run)
                self.assertEqual(caught.exception.index, many)
                self.assertTrue(all(one is other for one, other in zip(run, kept)))
                self.assertEqual(len(run), len(kept))

    def test_a_step_that_jams_is_not_taken(self):
        book = kit(wishes=[("no", "no", "want")])
        with self.assertRaises(NoRun) as caught:
            played(first(book, 2), [("wish", 0, 0), ("wish", 1, 0), ("wish", 1, 0)])
        self.assertEqual(caught.exception.index, 2)

    def test_long_runs(self):
        run = RUN + [("put", 0)] * 195
        before = copy.deepcopy(run)
        self.assertEqual(played(first(example(), 6), run).home(), (None, "elder", 0, None))
        self.assertEqual(run, before)
        with self.assertRaises(NoRun) as caught:
            played(first(example(), 6), run[:199] + [("put", 1)])
        self.assertEqual(caught.exception.index, 199)


if __name__ == "__main__":
    unittest.main()
