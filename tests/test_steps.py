"""Points [10] to [13]: what each kind of step does."""

import unittest

from copybooks.errors import NoStep
from copybooks.moments import first, played
from tests.samples import example, small

GIVE = [("give", True), ("yield", False)]
WANT = [("want", False), ("hand", True)]
STATES = [("no", ""), ("ask", "w"), ("has", "hr"), ("own", "hrp"), ("keep", "h")]
MARKS = ["out", "has", "boss"]


def kit(**changes):
    """A book with many states, letters and marks, and few rules."""
    task = ("take", [("out", None), ("has", None), ("boss", None)], ["out"], ["out", "has", "boss"], "boss", None,
            "stays")
    parts = {"states": STATES, "ups": WANT, "downs": GIVE, "marks": MARKS, "tasks": [task]}
    return small(**{**parts, **changes})


def task(name, **changes):
    """A task of the kit that calls nobody and changes no mark."""
    parts = {
        "calls": [("out", None), ("has", None), ("boss", None)], "quiet": ["out"], "ends": ["out", "has", "boss"],
        "mark": "boss", "down": None, "owner": "stays", **changes,
    }
    return (name, parts["calls"], parts["quiet"], parts["ends"], parts["mark"], parts["down"], parts["owner"])


class StepCase(unittest.TestCase):

    def behind(self, book, n, run):
        return played(first(book, n), run)

    def tells(self, moment, home, *caches):
        self.assertEqual(moment.home(), home)
        self.assertEqual(moment.caches(), list(caches))

    def jams(self, moment, step):
        self.assertIn(("jam", step), moment.wrongs())
        self.never(moment, step)

    def never(self, moment, step):
        self.assertNotIn(step, moment.steps())
        with self.assertRaises(NoStep):
            moment.after(step)

    def no_jam_and_never(self, moment, step):
        self.never(moment, step)
        self.assertNotIn(("jam", step), moment.wrongs())


class TestWish(StepCase):

    def test_without_a_letter(self):
        now = self.behind(kit(wishes=[("no", "ask", None)]), 2, [("wish", 1, 0)])
        self.tells(now, (None, "last", None, None), ("no", "none", "out", (), ()), ("ask", "none", "out", (), ()))

    def test_a_letter_without_data_bears_none(self):
        now = self.behind(kit(wishes=[("no", "own", None), ("own", "no", "want")]), 1,
                          [("wish", 0, 0), ("put", 0), ("wish", 0, 1)])
        self.tells(now, (None, "elder", None, None), ("no", "none", "out", (("want", None),), ()))

    def test_a_letter_with_data_bears_the_copy_from_ahead_of_the_change(self):
        book = kit(wishes=[("no", "own", None), ("own", "no", "hand"), ("own", "keep", "hand")])
        for index, caches in [(1, ("no", "none", "out", (("hand", "last"),), ())),
                              (2, ("keep", "last", "out", (("hand", "last"),), ()))]:
            now = self.behind(book, 1, [("wish", 0, 0), ("put", 0), ("wish", 0, index)])
            self.tells(now, (None, "elder", None, None), caches)

    def test_a_letter_with_data_from_a_state_that_does_not_hold_bears_no_data(self):
        now = self.behind(kit(wishes=[("no", "own", "hand")]), 1, [("wish", 0, 0)])
        self.tells(now, (None, "last", None, None), ("own", "none", "out", (("hand", "none"),), ()))

    def test_a_state_that_holds_may_have_no_copy(self):
        now = self.behind(kit(wishes=[("no", "keep", None)]), 1, [("wish", 0, 0)])
        self.assertEqual(now.caches(), [("keep", "none", "out", (), ())])
        self.assertEqual(now.wrongs(), [])

    def test_a_copy_stays_in_states_that_hold_and_is_lost_in_others(self):
        book = kit(wishes=[("no", "own", None), ("own", "keep", None), ("keep", "has", None), ("has", "ask", None),
                           ("ask", "keep", None)])
        now = self.behind(book, 1, [("wish", 0, 0), ("put", 0)])
        for index, cache in [(1, ("keep", "last")), (2, ("has", "last")), (3, ("ask", "none")), (4, ("keep", "none"))]:
            now = now.after(("wish", 0, index))
            self.assertEqual(now.caches()[0][:2], cache)

    def test_from_a_state_to_itself(self):
        book = kit(wishes=[("no", "no", "want")])
        now = self.behind(book, 1, [("wish", 0, 0)])
        self.tells(now, (None, "last", None, None), ("no", "none", "out", (("want", None),), ()))
        self.jams(now, ("wish", 0, 0))

    def test_only_in_its_first_state(self):
        now = first(kit(wishes=[("ask", "no", None), ("no", "ask", None)]), 1)
        self.no_jam_and_never(now, ("wish", 0, 0))
        self.assertEqual(now.steps(), [("wish", 0, 1)])

    def test_equal_wishes_are_steps_of_their_own(self):
        now = first(kit(wishes=[("no", "ask", None)] * 2), 1)
        self.assertEqual(now.steps(), [("wish", 0, 0), ("wish", 0, 1)])
        self.assertEqual(now.after(("wish", 0, 0)), now.after(("wish", 0, 1)))

    def test_letters_stand_in_the_order_of_the_book(self):
        book = kit(wishes=[("no", "no", "hand"), ("no", "no", "want")])
        for run in ([("wish", 0, 0), ("wish", 0, 1)], [("wish", 0, 1), ("wish", 0, 0)]):
            self.assertEqual(self.behind(book, 1, run).caches()[0][3], (("want", None), ("hand", "none")))

    def test_a_letter_jams_only_behind_one_of_its_kind_of_its_cache(self):
        book = kit(wishes=[("no", "ask", "want"), ("ask", "no", "want"), ("ask", "no", "hand")])
        now = self.behind(book, 2, [("wish", 0, 0)])
        self.jams(now, ("wish", 0, 1))
        self.assertEqual(now.steps(), [("wish", 0, 2), ("wish", 1, 0)])
        self.assertEqual(now.wrongs(), [("jam", ("wish", 0, 1))])


class TestAnswer(StepCase):

    def given(self, answers, down="give", n=1, **changes):
        """Cache 0 has put, has the mark has, and home has sent it a letter; its want is taken."""
        book = kit(wishes=[("no", "own", "want"), ("own", "keep", None), ("own", "ask", None), ("ask", "ask", "hand")],
                   idles=[("out", "want", "has", down, False)], answers=answers, **changes)
        return self.behind(book, n, [("wish", 0, 0), ("take", 0, "want")])

    def test_data_become_the_copy(self):
        now = self.given([("own", "give", "keep", None)])
        self.assertEqual(now.caches(), [("own", "none", "has", (), (("give", "last"),))])
        self.tells(now.after(("answer", 0, "give")), (None, "last", None, None), ("keep", "last", "has", (), ()))

    def test_data_replace_a_copy(self):
        now = self.given([("own", "give", "keep", None)]).after(("put", 0))
        self.assertEqual(now.caches(), [("own", "last", "has", (), (("give", "elder"),))])
        self.assertEqual(now.after(("answer", 0, "give")).caches(), [("keep", "elder", "has", (), ())])

    def test_no_data_replace_a_copy_too(self):
        task_rows = [task("take", quiet=["out", "has", "boss"], owner="asker", mark="has")]
        book = kit(wishes=[("no", "no", "want"), ("no", "own", "hand")], tasks=task_rows, answers=[
            ("own", "give", "keep", None)], idles=[("out", "want", "take"), ("has", "hand", "has", "give", False)])
        now = self.behind(book, 1, [("wish", 0, 0), ("take", 0, "want"), ("end",), ("wish", 0, 1), ("take", 0, "hand"),
                                    ("put", 0)])
        self.tells(now, (None, "none", 0, None), ("own", "last", "has", (), (("give", "none"),)))
        self.assertEqual(now.after(("answer", 0, "give")).caches(), [("keep", "none", "has", (), ())])

    def test_a_letter_without_data_leaves_the_copy(self):
        now = self.given([("own", "yield", "has", None)], "yield").after(("put", 0))
        self.assertEqual(now.caches(), [("own", "last", "has", (), (("yield", None),))])
        self.assertEqual(now.after(("answer", 0, "yield")).caches(), [("has", "last", "has", (), ())])

    def test_a_copy_is_lost_in_a_state_that_does_not_hold(self):
        for goal in ("no", "ask"):
            now = self.given([("own", "give", goal, None)]).after(("put", 0))
            self.assertEqual(now.after(("answer", 0, "give")).caches(), [(goal, "none", "has", (), ())])

    def test_it_sends_the_copy_of_now_whatever_the_new_state(self):
        for goal, copy in (("no", "none"), ("keep", "elder")):
            now = self.given([("own", "give", goal, "hand")]).after(("put", 0))
            self.assertEqual(now.after(("answer", 0, "give")).caches(),
                             [(goal, copy, "has", (("hand", "elder"),), ())])

    def test_it_sends_the_data_though_its_state_never_holds(self):
        now = self.given([("ask", "give", "no", "hand")]).after(("wish", 0, 2))
        self.assertEqual(now.after(("answer", 0, "give")).caches(), [("no", "none", "has", (("hand", "last"),), ())])

    def test_behind_a_letter_without_data_it_sends_its_old_copy(self):
        now = self.given([("own", "yield", "no", "hand")], "yield").after(("put", 0))
        self.assertEqual(now.after(("answer", 0, "yield")).caches(), [("no", "none", "has", (("hand", "last"),), ())])

    def test_it_sends_a_letter_without_data(self):
        now = self.given([("own", "give", "keep", "want")])
        self.assertEqual(now.after(("answer", 0, "give")).caches(), [("keep", "last", "has", (("want", None),), ())])

    def test_only_for_a_letter_that_is_there_and_a_state_with_an_answer(self):
        now = self.given([("keep", "give", "no", None), ("own", "yield", "no", None)], n=2)
        for step in [("answer", 0, "give"), ("answer", 0, "yield"), ("answer", 1, "give"), ("answer", 0, "want")]:
            self.no_jam_and_never(now, step)
        self.assertIn(("answer", 0, "give"), now.after(("wish", 0, 1)).steps())

    def test_its_letter_may_jam(self):
        now = self.given([("ask", "give", "no", "hand")]).after(("wish", 0, 2)).after(("wish", 0, 3))
        self.jams(now, ("answer", 0, "give"))
        self.assertEqual(now.caches(), [("ask", "none", "has", (("hand", "none"),), (("give", "last"),))])

    def test_it_may_send_a_letter_of_the_name_that_it_takes(self):
        book = kit(ups=[("give", False), ("want", False)], wishes=[("no", "ask", "want")],
                   idles=[("out", "want", "has", "give", False)], answers=[("ask", "give", "has", "give")])
        now = self.behind(book, 1, [("wish", 0, 0), ("take", 0, "want"), ("answer", 0, "give")])
        self.assertEqual(now.caches(), [("has", "last", "has", (("give", None),), ())])


class TestTake(StepCase):

    def owner_book(self, rows, busies=(), tasks=(), **changes):
        """A book in which cache 0 can become the owner with the mark boss, in the state own."""
        wishes = [("no", "own", "want"), ("own", "keep", "hand"), ("no", "no", "hand"), ("keep", "keep", "want")]
        return kit(wishes=wishes, idles=[("out", "want", "take"), *rows], busies=list(busies),
                   tasks=[task("take", quiet=["out", "boss"], owner="asker"), *tasks], **changes)

    def owner_run(self):
        return [("wish", 0, 0), ("take", 0, "want"), ("end",), ("put", 0)]

    def test_data_of_the_owner_become_the_memory_and_the_letter_bears_it(self):
        book = self.owner_book([("boss", "hand", "has", "give", False)])
        now = self.behind(book, 2, self.owner_run() + [("wish", 0, 1)])
        self.tells(now, (None, "elder", 0, None), ("keep", "last", "boss", (("hand", "last"),), ()),
                   ("no", "none", "out", (), ()))
        self.tells(now.after(("take", 0, "hand")), (None, "last", 0, None),
                   ("keep", "last", "has", (), (("give", "last"),)), ("no", "none", "out", (), ()))

    def test_elder_data_and_no_data_of_the_owner_become_the_memory_too(self):
        book = self.owner_book([("boss", "hand", "boss", None, False)])
        run = [("wish", 0, 0), ("take", 0, "want"), ("end",), ("wish", 0, 1)]
        now = self.behind(book, 1, run + [("take", 0, "hand")])
        self.tells(now, (None, "none", 0, None), ("keep", "none", "boss", (), ()))
        now = self.behind(book, 2, run[:-1] + [("put", 0), ("wish", 0, 1), ("wish", 1, 0), ("put", 1)])
        self.assertEqual(now.caches()[0][3], (("hand", "elder"),))
        self.assertEqual(now.after(("take", 0, "hand")).home(), (None, "elder", 0, None))

    def test_data_of_any_other_cache_are_dropped(self):
        book = self.owner_book([("out", "hand", "has", "give", True)])
        now = self.behind(book, 2, [("wish", 1, 2), ("take", 1, "hand")])
        self.tells(now, (None, "last", None, None), ("no", "none", "out", (), ()),
                   ("no", "none", "has", (), (("give", "last"),)))
        now = self.behind(book, 2, self.owner_run() + [("wish", 1, 2), ("take", 1, "hand")])
        self.tells(now, (None, "elder", 0, None), ("own", "last", "boss", (), ()),
                   ("no", "none", "has", (), (("give", "elder"),)))

    def test_a_letter_without_data_leaves_the_memory(self):
        book = self.owner_book([("boss", "want", "has", None, False)])
        now = self.behind(book, 1, self.owner_run() + [("wish", 0, 1), ("wish", 0, 3), ("take", 0, "want")])
        self.tells(now, (None, "elder", 0, None), ("keep", "last", "has", (("hand", "last"),), ()))

    def test_freeing(self):
        for frees, owner in ((True, None), (False, 0)):
            book = self.owner_book([("boss", "hand", "out", None, frees)])
            now = self.behind(book, 1, self.owner_run() + [("wish", 0, 1), ("take", 0, "hand")])
            self.tells(now, (None, "last", owner, None), ("keep", "last", "out", (), ()))

    def test_freeing_another_cache_leaves_the_owner(self):
        book = self.owner_book([("out", "hand", "out", None, True)])
        now = self.behind(book, 2, self.owner_run() + [("wish", 1, 2), ("take", 1, "hand")])
        self.assertEqual(now.home(), (None, "elder", 0, None))

    def test_beginning(self):
        calls = [("has", "give"), ("out", "yield"), ("out", None)]
        book = self.owner_book([("out", "hand", "look"), ("has", "hand", "out", None, False)],
                               tasks=[task("look", calls=calls)])
        now = self.behind(book, 3, self.owner_run() + [("wish", 1, 2), ("take", 1, "hand")])
        self.tells(now, ("look", "elder", 0, 1), ("own", "last", "out", (), ()), ("no", "none", "out", (), ()),
                   ("no", "none", "has", (), (("give", "elder"),)))

    def test_the_owner_may_ask_and_its_data_become_the_memory_first(self):
        calls = [("has", "give"), ("out", "yield"), ("out", None)]
        book = self.owner_book([("boss", "hand", "look")], tasks=[task("look", calls=calls)])
        now = self.behind(book, 2, self.owner_run() + [("wish", 0, 1), ("take", 0, "hand")])
        self.tells(now, ("look", "last", 0, 0), ("keep", "last", "boss", (), ()),
                   ("no", "none", "has", (), (("give", "last"),)))

    def test_an_owner_that_is_called_stays_the_owner_and_can_hand_over(self):
        calls = [("out", None), ("has", "yield"), ("has", "yield")]
        book = self.owner_book([("out", "hand", "look")], tasks=[task("look", calls=calls)],
                               busies=[("look", "has", "hand", "out", None, True)],
                               answers=[("own", "yield", "no", "hand")])
        now = self.behind(book, 2, self.owner_run() + [("wish", 1, 2), ("take", 1, "hand")])
        self.tells(now, ("look", "elder", 0, 1), ("own", "last", "has", (), (("yield", None),)),
                   ("no", "none", "out", (), ()))
        now = played(now, [("answer", 0, "yield"), ("take", 0, "hand")])
        self.tells(now, ("look", "last", None, 1), ("no", "none", "out", (), ()), ("no", "none", "out", (), ()))

    def test_the_first_letter_is_gone_ahead_of_the_rule(self):
        book = kit(ups=[("want", False)], downs=[("want", False)], wishes=[("no", "no", "want")],
                   idles=[("out", "want", "out", "want", False)])
        now = self.behind(book, 1, [("wish", 0, 0), ("take", 0, "want")])
        self.assertEqual(now.caches(), [("no", "none", "out", (), (("want", None),))])
        self.jams(now.after(("wish", 0, 0)), ("take", 0, "want"))

    def test_without_a_rule(self):
        book = self.owner_book([])
        now = self.behind(book, 2, [("wish", 0, 2), ("wish", 1, 0)])
        for step in [("take", 0, "hand"), ("take", 0, "want"), ("take", 1, "hand"), ("take", 0, "give")]:
            self.no_jam_and_never(now, step)
        self.assertEqual(now.steps(), [("wish", 0, 0), ("wish", 1, 1), ("take", 1, "want"), ("put", 1)])

    def test_a_letter_of_a_reply_jams(self):
        book = self.owner_book([("out", "hand", "out", "give", False)])
        run = [("wish", 0, 2), ("take", 0, "hand"), ("wish", 0, 2)]
        now = self.behind(book, 2, run + [("wish", 1, 2)])
        self.jams(now, ("take", 0, "hand"))
        self.assertIn(("take", 1, "hand"), now.steps())

    def test_a_call_jams_for_any_other_cache_but_not_for_the_asker(self):
        calls = [("out", "give"), ("out", "give"), ("out", "give")]
        idles = [("out", "want", "take"), ("out", "hand", "out", "give", False)]
        book = kit(wishes=[("no", "own", "want"), ("own", "no", None), ("no", "no", "hand")], idles=idles,
                   tasks=[task("take", calls=calls)])
        now = self.behind(book, 3, [("wish", 1, 2), ("take", 1, "hand"), ("wish", 0, 0), ("wish", 1, 0)])
        self.jams(now, ("take", 0, "want"))
        self.assertIn(("take", 1, "want"), now.steps())
        self.tells(now.after(("take", 1, "want")), ("take", "last", None, 1),
                   ("own", "none", "out", (("want", None),), (("give", "last"),)),
                   ("own", "none", "out", (), (("give", "last"),)), ("no", "none", "out", (), (("give", "last"),)))

    def test_without_a_task_only_idles_and_during_one_only_its_busies(self):
        busies = [("take", "out", "hand", "has", "give", False), ("look", "out", "want", "has", None, False)]
        book = self.owner_book([], busies=busies, tasks=[task("look")])
        now = self.behind(book, 3, [("wish", 1, 2), ("wish", 2, 0), ("wish", 0, 2)])
        self.never(now, ("take", 1, "hand"))
        now = played(now, [("wish", 0, 0), ("take", 0, "want")])
        self.assertEqual(now.home(), ("take", "last", None, 0))
        self.never(now, ("take", 2, "want"))
        self.assertEqual(now.after(("take", 1, "hand")).caches()[1], ("no", "none", "has", (), (("give", "last"),)))

    def test_of_the_asker_home_takes_nothing(self):
        book = self.owner_book([], busies=[("take", "out", "hand", "has", None, False)])
        now = self.behind(book, 2, [("wish", 0, 2), ("wish", 0, 0), ("take", 0, "want"), ("wish", 1, 2)])
        self.no_jam_and_never(now, ("take", 0, "hand"))
        self.assertEqual([step for step in now.steps() if step[0] == "take"], [("take", 1, "hand")])

    def test_busies_take_data_of_the_owner_and_free(self):
        for frees, owner in ((True, None), (False, 0)):
            book = self.owner_book([("out", "hand", "look")], tasks=[task("look")],
                                   busies=[("look", "boss", "hand", "has", "give", frees)])
            now = self.behind(book, 2, self.owner_run() + [("wish", 0, 1), ("wish", 1, 2), ("take", 1, "hand")])
            self.assertEqual(now.home(), ("look", "elder", 0, 1))
            self.tells(now.after(("take", 0, "hand")), ("look", "last", owner, 1),
                       ("keep", "last", "has", (), (("give", "last"),)), ("no", "none", "out", (), ()))

    def test_busies_drop_data_of_others(self):
        book = self.owner_book([("out", "hand", "look")], tasks=[task("look")],
                               busies=[("look", "out", "hand", "has", "give", True)])
        now = self.behind(book, 3, self.owner_run() + [("wish", 1, 2), ("wish", 2, 2), ("take", 1, "hand"),
                                                       ("take", 2, "hand")])
        self.assertEqual(now.home(), ("look", "elder", 0, 1))
        self.assertEqual(now.caches()[2], ("no", "none", "has", (), (("give", "elder"),)))


class TestEnd(StepCase):

    def task_book(self, owner="stays", **changes):
        return kit(wishes=[("no", "own", "want"), ("no", "no", "hand"), ("no", "no", "want")],
                   idles=[("out", "want", "take"), ("out", "hand", "has", "give", False)],
                   tasks=[task("take", owner=owner, **changes)])

    def test_without_a_task(self):
        now = first(self.task_book(), 2)
        self.no_jam_and_never(now, ("end",))

    def test_marks_and_letter(self):
        book = self.task_book(quiet=["has", "out"], ends=["boss", "out", "has"], mark="has", down="give")
        now = self.behind(book, 3, [("wish", 2, 1), ("take", 2, "hand"), ("wish", 1, 0), ("take", 1, "want")])
        self.tells(now, ("take", "last", None, 1), ("no", "none", "out", (), ()), ("own", "none", "out", (), ()),
                   ("no", "none", "has", (), (("give", "last"),)))
        self.tells(now.after(("end",)), (None, "last", None, None), ("no", "none", "boss", (), ()),
                   ("own", "none", "has", (), (("give", "last"),)), ("no", "none", "out", (), (("give", "last"),)))

    def test_a_letter_without_data(self):
        book = self.task_book(quiet=["out"], down="yield")
        now = self.behind(book, 1, [("wish", 0, 0), ("take", 0, "want"), ("end",)])
        self.tells(now, (None, "last", None, None), ("own", "none", "boss", (), (("yield", None),)))

    def test_each_other_mark_must_be_quiet_the_askers_need_not(self):
        book = self.task_book(quiet=["has"])
        run = [("wish", 0, 1), ("take", 0, "hand"), ("wish", 1, 0), ("take", 1, "want")]
        self.assertIn(("end",), self.behind(book, 2, run).steps())
        self.no_jam_and_never(self.behind(book, 3, run), ("end",))

    def test_the_owner(self):
        for word, owner in (("asker", 0), ("none", None), ("stays", None)):
            book = self.task_book(owner=word)
            now = self.behind(book, 2, [("wish", 0, 0), ("take", 0, "want"), ("end",)])
            self.assertEqual(now.home(), (None, "last", owner, None), word)

    def test_an_owner_ahead_of_the_task(self):
        for word, owner in (("asker", 1), ("none", None), ("stays", 0)):
            book = kit(wishes=[("no", "no", "want"), ("no", "no", "hand")],
                       idles=[("out", "want", "take"), ("out", "hand", "look")],
                       tasks=[task("take", owner="asker"), task("look", owner=word, quiet=["boss"])])
            now = self.behind(book, 2, [("wish", 0, 0), ("take", 0, "want"), ("end",), ("wish", 1, 1),
                                        ("take", 1, "hand")])
            self.assertEqual(now.home(), ("look", "last", 0, 1))
            self.tells(now.after(("end",)), (None, "last", owner, None), ("no", "none", "boss", (), ()),
                       ("no", "none", "boss", (), ()))

    def test_the_owner_as_the_asker(self):
        for word, owner in (("asker", 0), ("none", None), ("stays", 0)):
            book = kit(wishes=[("no", "no", "want"), ("no", "no", "hand")],
                       idles=[("out", "want", "take"), ("boss", "hand", "look")],
                       tasks=[task("take", owner="asker"), task("look", owner=word)])
            run = [("wish", 0, 0), ("take", 0, "want"), ("end",), ("wish", 0, 1), ("take", 0, "hand"), ("end",)]
            # The letter of the owner, in a state that does not hold, bore no data.
            self.assertEqual(self.behind(book, 2, run).home(), (None, "none", owner, None))

    def test_letters_of_others_stay_under_way(self):
        book = self.task_book()
        run = [("wish", 0, 1), ("wish", 0, 2), ("wish", 1, 0), ("take", 1, "want"), ("end",)]
        self.assertEqual(self.behind(book, 2, run).caches()[0],
                         ("no", "none", "out", (("want", None), ("hand", "none")), ()))

    def test_its_letter_may_jam(self):
        book = kit(wishes=[("no", "no", "hand"), ("no", "no", "want")], tasks=[task("take", down="give")],
                   idles=[("out", "hand", "out", "give", False), ("out", "want", "take")])
        run = [("wish", 0, 0), ("take", 0, "hand"), ("wish", 0, 1), ("take", 0, "want")]
        self.jams(self.behind(book, 2, run), ("end",))
        self.assertEqual(self.behind(book, 2, run).wrongs(), [("jam", ("end",))])

    def test_what_could_not_be_taken_does_not_jam(self):
        book = kit(wishes=[("no", "no", "hand"), ("no", "no", "want")],
                   tasks=[task("take", down="give", quiet=["boss"])],
                   idles=[("out", "hand", "out", "give", False), ("out", "want", "take")])
        run = [("wish", 0, 0), ("take", 0, "hand"), ("wish", 0, 1), ("take", 0, "want")]
        self.no_jam_and_never(self.behind(book, 2, run), ("end",))

    def test_a_letter_to_another_cache_does_not_jam_it(self):
        book = kit(wishes=[("no", "no", "hand"), ("no", "no", "want")], tasks=[task("take", down="give")],
                   idles=[("out", "hand", "out", "give", False), ("out", "want", "take")])
        run = [("wish", 1, 0), ("take", 1, "hand"), ("wish", 0, 1), ("take", 0, "want"), ("end",)]
        self.assertEqual(self.behind(book, 2, run).caches()[0], ("no", "none", "boss", (), (("give", "last"),)))


class TestPut(StepCase):

    def test_only_where_a_cache_may_put(self):
        states = [("no", ""), ("a", "h"), ("b", "hr"), ("c", "hp"), ("d", "hrp"), ("e", "hrpw"), ("f", "w")]
        book = kit(states=states, wishes=[("no", name, None) for name, _ in states])
        for index, (_, traits) in enumerate(states):
            now = self.behind(book, 2, [("wish", 1, index)])
            self.assertEqual(("put", 1) in now.steps(), "p" in traits)
            if "p" in traits:
                self.assertEqual(now.after(("put", 1)).caches()[1][1], "last")
            else:
                self.no_jam_and_never(now, ("put", 1))
            self.no_jam_and_never(now, ("put", 0))

    def test_all_that_was_last_is_elder_everywhere(self):
        book = kit(wishes=[("no", "own", "want"), ("own", "own", "hand"), ("own", "own", "want")],
                   idles=[("out", "want", "out", "give", False)], answers=[("own", "give", "own", None)])
        run = [("wish", i, 0) for i in range(3)] + [("take", i, "want") for i in range(3)]
        run += [("answer", i, "give") for i in range(3)]
        for i in range(3):
            run += [("wish", i, 1), ("wish", i, 2), ("take", i, "want")]
        now = self.behind(book, 3, run)
        full = ("own", "last", "out", (("hand", "last"),), (("give", "last"),))
        old = ("own", "elder", "out", (("hand", "elder"),), (("give", "elder"),))
        new = ("own", "last", "out", (("hand", "elder"),), (("give", "elder"),))
        self.tells(now, (None, "last", None, None), full, full, full)
        now = now.after(("put", 1))
        self.tells(now, (None, "elder", None, None), old, new, old)
        now = now.after(("put", 2))
        self.tells(now, (None, "elder", None, None), old, old, new)
        self.assertEqual(now.after(("put", 2)), now)

    def test_what_has_no_data_stays_so(self):
        book = kit(wishes=[("no", "own", "hand"), ("no", "own", "want")])
        now = self.behind(book, 2, [("wish", 0, 0), ("wish", 1, 1), ("put", 1)])
        self.tells(now, (None, "elder", None, None), ("own", "none", "out", (("hand", "none"),), ()),
                   ("own", "last", "out", (("want", None),), ()))
        self.assertEqual(now.after(("put", 0)).caches()[1][1], "elder")

    def test_home_is_left_as_it_is(self):
        now = self.behind(example(), 2, [("wish", 0, 0), ("take", 0, "want"), ("end",), ("answer", 0, "give"),
                                         ("wish", 1, 0), ("take", 1, "want")])
        self.assertEqual(now.home(), ("take", "last", 0, 1))
        now = now.after(("put", 0))
        self.tells(now, ("take", "elder", 0, 1), ("own", "last", "boss", (), (("yield", None),)),
                   ("ask", "none", "out", (), ()))


if __name__ == "__main__":
    unittest.main()
