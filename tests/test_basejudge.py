"""Points [37], [39] and [40]: harm that can still come of a moment, and the judge of bases."""

import unittest

from copybooks.basejudge import base_fault, harm
from copybooks.errors import NoBag, NoMost, TooMany
from copybooks.moments import first
from copybooks.searches import shortest
from copybooks.views import views
from tests.naive_views import naive_of
from tests.samples import (
    called_twice, example, example_parts, full_parts, made, near_book, odd_values, putting, right_by_three, right_by_two,
    shared_parts, small, wrong_by_four,
)
from tests.test_moments import no_steps
from tests.test_searches import NO_MOST
from tests.test_steps import kit
from tests.test_viewjudge import ASK, ASKED, BOSS, TAKING, no_views
from tests.test_views import FREE, NO, START, own

STALE = ("own", "elder", "out", (), ())
CALLED = ("no", "none", "out", (), (("call", None),))


def least(book, most, control=None):
    """The least harmful bags with at most so many others, and a run for each: bags and runs.

    The others that may stand beside a control are taken from the least closed list of views of 1.
    """
    plain = naive_of(book)
    bags, runs = [], []
    for bag in plain.fitting(plain.closed(1, 300), most):
        if not plain.contains(bag, bags):
            run = harm(book, bag, most=20000)
            if run is not None:
                bags.append(bag)
                runs.append(run)
    return bags, runs


class HarmCase(unittest.TestCase):

    def leads(self, book, bag, many, **bounds):
        """Checks the length of a shortest run, that it leads to something wrong, and the bound at its edge."""
        run = harm(book, bag, **bounds)
        plain = naive_of(book)
        self.assertEqual(None if run is None else len(run), many)
        if run is not None:
            self.assertIs(type(run), list)
            self.assertTrue(plain.harms(bag, run))
        steps, moments = plain.harm(bag, 300)
        self.assertEqual(steps, many)
        if moments:
            self.assertEqual(harm(book, bag, most=moments) is None, many is None)
        if moments > 1:
            for most in (moments - 1, 1):
                with self.assertRaises(TooMany) as caught:
                    harm(book, bag, most=most)
                self.assertEqual(caught.exception.most, most)


class TestHarm(HarmCase):

    def test_something_is_wrong_at_once(self):
        for bag in [(START, (STALE,)), (START, (NO, NO, STALE)), ((None, "last", STALE, None), ()), (START, (STALE,) * 6)]:
            for most in (1, 3000):
                self.assertEqual(harm(example(), bag, most=most), [])
        self.leads(example(), (START, (NO, STALE)), 0)
        self.leads(called_twice(), (START, (("ask", "none", "out", (("want", None),), ()), CALLED)), 0)

    def test_nothing_comes_of_it(self):
        self.leads(example(), (START, ()), None)
        self.leads(example(), (START, (NO,)), None)
        self.leads(example(), (START, (NO, NO)), None)
        self.leads(example(), (TAKING, (ASKED,)), None)
        self.leads(small(), (START, (NO,) * 6), None)
        for many in range(4):
            self.assertIsNone(harm(example(), (START, (NO,) * many)))

    def test_moments_that_do_not_fit(self):
        # Two others hold the last put and may put: one put, and the other one is stale.
        two = ("own", "last", "out", (), ())
        self.leads(example(), (START, (two, two)), 1)
        self.leads(example(), (START, (two,)), None)
        self.leads(example(), ((None, "none", None, None), (NO,)), 4)
        self.leads(example(), ((None, "none", None, None), ()), None)

    def test_like_shortest_from_first_moments(self):
        for book in (called_twice(), kit(wishes=[("no", "has", None)]), example(answers=example_parts()["answers"][:1])):
            for n in (1, 2, 3):
                run = shortest(book, n)
                state, mark = book.states()[0][0], book.marks()[0]
                bag = (START, ((state, "none", mark, (), ()),) * n)
                self.leads(book, bag, None if run is None else len(run))

    def test_moments_are_told_apart_by_their_caches(self):
        # Two caches, each of which may have asked: four moments, though only three classes.
        book = kit(wishes=[("no", "ask", None)])
        for many in (1, 2, 3, 4):
            self.assertIsNone(harm(book, (START, (NO,) * many), most=2 ** many))
            with self.assertRaises(TooMany):
                harm(book, (START, (NO,) * many), most=2 ** many - 1)
        self.assertIsNone(harm(book, (START, (NO,) * 6), most=64))
        with self.assertRaises(TooMany):
            harm(book, (START, (NO,) * 6), most=63)

    def test_the_first_moment_is_told_apart_from_others(self):
        # The asker and the other one may both change and change back; home may end the task.
        book = kit(wishes=[("ask", "keep", None), ("keep", "ask", None)])
        for control in (("take", "last", None, ASK), ("take", "last", ASK, NO)):
            self.leads(book, (control, (ASK,)), None)
        self.assertIsNone(harm(book, (TAKING, (ASK,)), most=8))
        with self.assertRaises(TooMany):
            harm(book, (TAKING, (ASK,)), most=7)

    def test_the_order_of_the_caches(self):
        # Cache 0 is the asker, then comes the owner, if it is another one, then the others, as they stand.
        book = kit(wishes=[("keep", "has", None)])
        keep = ("keep", "none", "out", (), ())
        for control, others, i in [
                (("take", "last", NO, keep), (ASK,), 0), (("take", "last", keep, ASK), (NO,), 1),
                (("take", "last", NO, ASK), (keep, NO), 2), (("take", "last", NO, ASK), (ASK, keep, NO), 3),
                (("take", "last", "asker", ASK), (keep,), 1), (("take", "last", "asker", keep), (NO,), 0),
                (("take", "last", None, ASK), (ASK, keep), 2), ((None, "last", NO, None), (ASK, keep), 2),
                ((None, "last", keep, None), (ASK,), 0), (START, (ASK, ASK, ASK, ASK, ASK, keep), 5)]:
            self.assertEqual(harm(book, (control, others)), [("wish", i, 0)])

    def test_ends_ask_these_caches_alone(self):
        # Alone the asker is served, and reads what memory has; beside one with the mark boss it waits for that.
        given = ("take", "elder", None, ASK)
        self.leads(example(), (TAKING, ()), None)
        self.leads(example(), (given, ()), 2)
        self.leads(example(), (given, (NO, NO, ASK)[::-1]), 2)
        self.leads(example(), (given, (("no", "none", "boss", (("hand", "none"),), ()),)), 3)
        self.leads(example(), (given, (("no", "none", "boss", (), ()),)), 0)

    def test_most_counts_what_takes_fewer_steps(self):
        wishes = [("no", "ask", None), ("no", "keep", None), ("ask", "has", None)]
        self.leads(kit(wishes=wishes), (START, (NO,)), 2)
        self.assertEqual(len(harm(kit(wishes=wishes), (START, (NO,)), most=3)), 2)
        self.assertEqual(len(harm(kit(wishes=[("no", "has", None)]), (START, (NO,) * 6), most=1)), 1)

    def test_the_bound_is_3000(self):
        names = ["a", "b", "c", "d", "e"]
        for many, caches in ((5, 2), (2, 5), (5, 3), (2, 6)):
            book = kit(states=[("no", "")] + [(name, "") for name in names],
                       wishes=[("no", name, None) for name in names[:many]])
            moments = (many + 1) ** caches
            self.assertIsNone(harm(book, (START, (NO,) * caches), most=moments))
            with self.assertRaises(TooMany):
                harm(book, (START, (NO,) * caches), most=moments - 1)
        book = kit(states=[("no", "")] + [(name, "") for name in names], wishes=[("no", name, None) for name in names[:3]])
        with self.assertRaises(TooMany) as caught:
            harm(book, (START, (NO,) * 6))
        self.assertEqual(caught.exception.most, 3000)
        self.assertIsNone(harm(book, (START, (NO,) * 6), most=4096))

    def test_arguments_from_left_to_right(self):
        for value in no_views():
            for most in (3000, 0, None):
                with self.assertRaises(NoBag):
                    harm(example(), value, most=most)
        for most in NO_MOST:
            for bag in ((START, ()), (START, (STALE,)), (START, (NO,) * 6)):
                with self.assertRaises(NoMost):
                    harm(example(), bag, most=most)

    def test_six_caches_in_all(self):
        quiet = small()
        for control, many in ((START, 6), ((None, "last", NO, None), 5), (("take", "last", NO, NO), 4),
                              (("take", "last", "asker", NO), 5), (("take", "last", None, NO), 5)):
            self.assertIsNone(harm(quiet, (control, (NO,) * many)))
            for more in (1, 2, 30):
                for most in (3000, 0):
                    with self.assertRaises(NoBag):
                        harm(quiet, (control, (NO,) * (many + more)), most=most)

    def test_what_is_returned_is_new(self):
        harm(example(), (START, (STALE,))).append(1)
        self.assertEqual(harm(example(), (START, (STALE,))), [])


class BaseCase(unittest.TestCase):

    def tells(self, book, thing, runs, fault):
        kept = (list(thing), [list(run) for run in runs])
        self.assertEqual(base_fault(book, thing, runs), fault)
        self.assertEqual(naive_of(book).base_fault(thing, runs), fault)
        self.assertEqual((thing, runs), kept)


class TestBases(BaseCase):

    def test_empty_bases(self):
        for book in (example(), small(), kit(), putting()):
            self.tells(book, [], [], None)
        self.assertIsNone(base_fault(made(shared_parts()), [], []))

    def test_bases(self):
        # How many others the greatest bag has, and how many bags there are.
        books = [(called_twice(), 2), (kit(wishes=[("no", "has", None)]), 1), (right_by_two(), 3), (right_by_three(), 3),
                 (near_book(1, shared_parts()), 3), (near_book(2, shared_parts()), 2)]
        sizes = []
        for book, most in books:
            bags, runs = least(book, most)
            self.assertIsNone(base_fault(book, bags, runs))
            self.assertIsNone(base_fault(book, bags[::-1], runs[::-1]))
            self.assertEqual(max(len(others) for _, others in bags), most)
            sizes.append(len(bags))
        self.assertEqual(sizes, [27, 2, 74, 153, 71, 29])

    def test_smaller_bases_word_by_word(self):
        for book, most in ((called_twice(), 2), (right_by_two(), 2), (near_book(6, shared_parts()), 1)):
            bags, runs = least(book, most)
            self.tells(book, bags, runs, naive_of(book).base_fault(bags, runs))

    def test_a_right_book_may_have_a_base(self):
        bags, runs = least(right_by_two(), 3)
        self.assertEqual(views(right_by_two(), 2)[0], "closed")
        self.assertIsNone(base_fault(right_by_two(), bags, runs))
        self.assertEqual(base_fault(right_by_two(), [], []), ("lack", -1))


class TestForm(BaseCase):

    def form(self, thing, runs, **bounds):
        self.assertEqual(base_fault(example(), thing, runs, **bounds), ("form",))

    def test_no_list_of_bags(self):
        for value in odd_values():
            if value != []:
                self.form(value, [])
            if not isinstance(value, list):
                self.form([], value)
        for value in no_views():
            self.form([value], [[]])
            self.form([(START, ()), value], [[], []])
        self.form([(START, (NO,) * 7)], [[]])
        self.form([(TAKING, (NO,) * 6)], [[]])
        self.assertEqual(base_fault(example(), [(TAKING, (NO,) * 5)], [[]]), ("run", 0))

    def test_no_list_of_as_many_lists(self):
        bag = (START, (NO,))
        for runs in ([], [[], []], ([],), {0: []}, [()], [None], ["end"], [("end",)], [{}], [True], None):
            self.form([bag], runs)
        for runs in ([[]], [[], [], []], [[], None], [[], ()]):
            self.form([bag, bag], runs)
        self.form([], [[]])

    def test_form_goes_ahead_of_too_many(self):
        self.form([None], [[]], most=1)
        self.form([], None, most=1)
        with self.assertRaises(TooMany):
            base_fault(example(), [], [], most=1)

    def test_too_many(self):
        for most in (35, 1):
            for thing, runs in (([], []), ([(START, (STALE,))], [[]])):
                with self.assertRaises(TooMany) as caught:
                    base_fault(example(), thing, runs, most=most)
                self.assertEqual(caught.exception.most, most)
        self.assertIsNone(base_fault(example(), [], [], most=36))
        bags, runs = least(right_by_two(), 3)
        self.assertGreater(len(bags), 27)
        self.assertIsNone(base_fault(right_by_two(), bags, runs, most=27))
        with self.assertRaises(TooMany):
            base_fault(right_by_two(), bags, runs, most=26)

    def test_the_bound_is_2000(self):
        with self.assertRaises(TooMany) as caught:
            base_fault(made(full_parts()), [], [])
        self.assertEqual(caught.exception.most, 2000)
        names = ["a", "b", "c", "d", "e"]
        sending = [("no", "no", name) for name in names]
        big = kit(ups=[(name, False) for name in names], wishes=sending + [("no", "ask", None), ("ask", "keep", None)])
        many = 1 + 3 * 32
        self.assertEqual(base_fault(big, [], [], most=many), ("lack", -1))
        with self.assertRaises(TooMany):
            base_fault(big, [], [], most=many - 1)

    def test_most_goes_first(self):
        for most in NO_MOST:
            for thing, runs in ((None, None), ([], []), ([None], [])):
                with self.assertRaises(NoMost):
                    base_fault(example(), thing, runs, most=most)


class TestFits(BaseCase):

    def test_bags_that_do_not_fit(self):
        for bag in [(START, (STALE,)), (START, (NO, STALE)), ((None, "none", None, None), ()), (TAKING, (BOSS,)),
                    ((None, "none", None, None), (NO,)), (("take", "last", "asker", ASK), (NO,)), (FREE, (NO,))]:
            for run in ([], [("end",)], [None]):
                self.tells(example(), [bag], [run], ("fits", 0))
        self.tells(example(), [(START, (ASKED, NO))], [[]], ("run", 0))

    def test_fits_goes_ahead_of_run_and_part_by_the_index(self):
        bad, fine = (START, (STALE,)), (START, (NO,))
        self.tells(example(), [bad, bad], [[], []], ("fits", 0))
        self.tells(example(), [fine, bad], [[], []], ("run", 0))
        self.tells(example(), [bad, fine], [[], []], ("fits", 0))
        bags, runs = least(called_twice(), 2)
        self.tells(called_twice(), [bags[0], (START, (CALLED, ("no", "none", "out", (("want", None),), ())))] + bags[1:],
                   [runs[0], []] + runs[1:], ("fits", 1))

    def test_each_other_must_fit_but_not_beside_one_another(self):
        # Two owners by their marks cannot stand beside one another, yet each may stand there.
        bags, runs = least(right_by_two(), 2)
        pairs = [bag for bag in bags if len(bag[1]) == 2]
        self.assertTrue(pairs)
        at = bags.index(pairs[0])
        self.assertNotIn(base_fault(right_by_two(), bags[at:at + 1], runs[at:at + 1]), [("fits", 0), ("run", 0)])


class TestRun(BaseCase):

    def setUp(self):
        self.book = called_twice()
        self.bags, self.runs = least(self.book, 2)

    def test_too_short_or_too_long(self):
        for at, run in enumerate(self.runs):
            for other in ([run[:-1]] if run else []) + [run + [("end",)] * 2, run + [None], run + [("put", 0)]]:
                runs = self.runs[:at] + [other] + self.runs[at + 1:]
                self.tells(self.book, self.bags, runs, ("run", at))

    def test_one_step_too_long(self):
        # The run may go on behind something wrong; it counts whether something is wrong at its end.
        book = kit(wishes=[("no", "has", None), ("has", "ask", None), ("has", "keep", None), ("ask", "has", None)])
        bags, runs = [(START, (("has", "none", "out", (), ()),)), (START, (("ask", "none", "out", (), ()),)), (START, (NO,))], [
            [], [("wish", 0, 3)], [("wish", 0, 0)]]
        self.tells(book, bags, runs, None)
        self.tells(book, bags, [runs[0], runs[1], runs[2] + [("wish", 0, 1)]], ("run", 2))
        self.tells(book, bags, [runs[0], runs[1] + [("wish", 0, 1)], runs[2]], ("run", 1))
        self.tells(book, bags, [runs[0], runs[1] + [("wish", 0, 1), ("wish", 0, 3)], runs[2]], None)
        self.tells(book, bags, [[("wish", 0, 2)], runs[1], runs[2]], ("run", 0))

    def test_steps_that_are_none(self):
        at = [len(run) > 1 for run in self.runs].index(True)
        for value in no_steps():
            self.assertEqual(base_fault(self.book, self.bags, [[value]] + self.runs[1:]), ("run", 0))
        for step in self.runs[at][::-1][:1]:
            runs = self.runs[:at] + [[step] + self.runs[at]] + self.runs[at + 1:]
            self.tells(self.book, self.bags, runs, ("run", at))

    def test_a_step_that_jams(self):
        bag = (START, (("ask", "none", "out", (("want", None),), ()), CALLED))
        at = self.bags.index(bag)
        self.assertEqual(self.runs[at], [])
        self.tells(self.book, self.bags, self.runs[:at] + [[("take", 0, "want")]] + self.runs[at + 1:], ("run", at))

    def test_longer_runs_need_not_be_shortest(self):
        book = kit(wishes=[("no", "ask", None), ("ask", "no", None), ("no", "has", None)])
        bags = [(START, (NO,)), (START, (ASK,)), (START, (("has", "none", "out", (), ()),))]
        self.tells(book, bags, [[("wish", 0, 2)], [("wish", 0, 1), ("wish", 0, 2)], []], None)
        there_and_back = [("wish", 0, 0), ("wish", 0, 1)]
        self.tells(book, bags, [there_and_back * 3 + [("wish", 0, 2)], [("wish", 0, 1), ("wish", 0, 2)], []], None)
        self.tells(book, bags, [there_and_back * 3, [("wish", 0, 1), ("wish", 0, 2)], []], ("run", 0))

    def test_long_runs(self):
        book = kit(wishes=[("no", "has", None), ("has", "has", None)])
        bags = [(START, (NO,)), (START, (("has", "none", "out", (), ()),))]
        run = [("wish", 0, 0)] + [("wish", 0, 1)] * 199
        self.tells(book, bags, [run, run[1:]], None)
        self.tells(book, bags, [run, run], ("run", 1))


class TestPart(BaseCase):

    def setUp(self):
        self.book = called_twice()
        self.bags, self.runs = least(self.book, 2)

    def test_the_same_bag_twice(self):
        for at in range(len(self.bags)):
            for to in (0, at, at + 1, len(self.bags)):
                bags = self.bags[:to] + [self.bags[at]] + self.bags[to:]
                runs = self.runs[:to] + [self.runs[at]] + self.runs[to:]
                self.tells(self.book, bags, runs, ("part", min(at, to)))

    def test_a_part_of_the_others(self):
        for at, (control, others) in enumerate(self.bags):
            greater = (control, tuple(sorted(others + others[:1])))
            if others:
                run = harm(self.book, greater)
                self.tells(self.book, [greater] + self.bags, [run] + self.runs, ("part", 0))
                self.tells(self.book, self.bags + [greater], self.runs + [run], ("part", len(self.bags)))

    def test_another_control_is_no_part(self):
        bags, runs = least(right_by_two(), 3)
        controls = {control for control, _ in bags}
        self.assertGreater(len(controls), 1)
        self.assertIsNone(base_fault(right_by_two(), bags, runs))

    def test_run_goes_ahead_of_part(self):
        self.tells(self.book, [self.bags[0]] + self.bags, [[None]] + self.runs, ("run", 0))
        self.tells(self.book, self.bags + [self.bags[0]], self.runs + [[None]], ("part", 0))


class TestLack(BaseCase):

    def test_each_bag_that_is_lacking(self):
        for book, most in ((called_twice(), 2), (kit(wishes=[("no", "has", None)]), 1), (near_book(6, shared_parts()), 1)):
            bags, runs = least(book, most)
            for at in range(len(bags)):
                thing, rest = bags[:at] + bags[at + 1:], runs[:at] + runs[at + 1:]
                fault = base_fault(book, thing, rest)
                self.assertEqual((fault is None) or fault[0], "lack")
                self.tells(book, thing, rest, fault)

    def test_wrong_moments_go_first(self):
        bags, runs = least(called_twice(), 2)
        wrong = [at for at, run in enumerate(runs) if run == []]
        for at in wrong:
            self.tells(called_twice(), bags[:at] + bags[at + 1:], runs[:at] + runs[at + 1:], ("lack", -1))
        self.tells(called_twice(), [], [], ("lack", -1))
        some = [bags[at] for at in wrong]
        fault = base_fault(called_twice(), some, [[] for _ in some])
        self.assertEqual(fault[0], "lack")
        self.assertGreaterEqual(fault[1], 0)
        self.tells(called_twice(), some, [[] for _ in some], fault)

    def test_a_jam_of_two_others(self):
        asked = ("ask", "none", "out", (("want", None),), ())
        bags, runs = least(called_twice(), 2)
        at = bags.index((START, (asked, CALLED)))
        self.tells(called_twice(), bags[:at] + bags[at + 1:], runs[:at] + runs[at + 1:], ("lack", -1))

    def test_a_control_that_is_wrong_by_itself(self):
        # All moments with others contain a bag, but that of the control alone does not.
        book = example(answers=example_parts()["answers"][:1])
        bags, runs = least(book, 2)
        self.tells(book, bags, runs, None)
        alone = [bag for bag, run in zip(bags, runs) if bag[1] == () and run == []]
        self.assertTrue(alone)
        for bag in alone:
            rest = [(one, run) for one, run in zip(bags, runs) if one != bag]
            beside = [(view, []) for view in sorted(naive_of(book).closed(1, 300), key=str) if view[0] == bag[0] and view[1]]
            self.assertTrue(beside)
            thing, rest_runs = [one for one, _ in rest + beside], [run for _, run in rest + beside]
            self.tells(book, thing, rest_runs, ("lack", -1))

    def test_with_one_other_more_than_the_bag(self):
        # It takes an asker and two that are called: the bag behind the beginning has two others.
        for seed in (1, 3):
            book = near_book(seed, shared_parts())
            bags, runs = least(book, 2)
            word, index = base_fault(book, bags, runs)
            self.assertEqual((word, len(bags[index][1])), ("lack", 2))
            self.assertEqual(naive_of(book).base_fault(bags, runs), (word, index))

    def test_the_least_index(self):
        bags, runs = least(right_by_three(), 2)
        self.assertEqual(base_fault(right_by_three(), bags, runs)[0], "lack")
        for order in (1, -1):
            thing, rest = bags[::order], runs[::order]
            self.tells(right_by_three(), thing, rest, naive_of(right_by_three()).base_fault(thing, rest))

    def test_wrong_by_four_has_the_first_moment_in_its_base(self):
        moment = (START, (("no", "none", "a", (), ()),) * 4)
        self.assertEqual(len(harm(wrong_by_four(), moment, most=20000)), len(shortest(wrong_by_four(), 4)))
        self.assertIsNone(harm(wrong_by_four(), (START, moment[1][:3])))
        run = harm(wrong_by_four(), moment, most=20000)
        self.assertEqual(base_fault(wrong_by_four(), [moment], [run]), ("lack", -1))


class TestMoments(unittest.TestCase):

    def test_bags_of_moments_that_can_be_come_to_do_no_harm_in_a_right_book(self):
        moments = [first(example(), 3)]
        for moment in moments:
            moments += [after for after in map(moment.after, moment.steps()) if after not in moments]
        for moment in moments[::7]:
            (task, memory, owner, asker), caches = moment.home(), moment.caches()
            told = None if owner is None else "asker" if owner == asker else caches[owner]
            others = tuple(sorted(cache for i, cache in enumerate(caches) if i not in (owner, asker)))
            self.assertIsNone(harm(example(), ((task, memory, told, None if asker is None else caches[asker]), others)))

    def test_puts_of_others(self):
        # One holds the last put, and a put of the other one makes it an elder one, which may then be read.
        book = kit(states=[("no", ""), ("own", "hp"), ("has", "hr")], wishes=[("no", "own", None), ("own", "has", None)])
        bags, runs = least(book, 2)
        self.assertIn((START, (own("none"),)), bags)
        self.assertIsNone(base_fault(book, bags, runs))
        self.assertEqual(naive_of(book).base_fault(bags, runs), None)


if __name__ == "__main__":
    unittest.main()
