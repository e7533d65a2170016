"""Points [28] and [29]: families of books, and the least mends."""

import itertools
import unittest

from copybooks.books import Book
from copybooks.deciding import decide
from copybooks.errors import NoBook, NoFamily, NoMany, NoMost, NoPick, Undecided
from copybooks.families import Family, least_mends, mends_fault, mends_paper, sort_family
from copybooks.moments import first
from copybooks.searches import run_fault
from copybooks.viewjudge import closed_fault
from copybooks.views import views
from tests.samples import (
    example, example_parts, full_parts, made, nested, odd_values, right_by_two, shared_parts, small, wrong_by_four,
)
from tests.test_searches import NO_MANY, NO_MOST
from tests.test_steps import kit

SLIP = ("own", "yield", "own", "hand")

# The answer by which the owner hands the line on was slipped: the owner stays in its state.
SLIPPED = example(answers=[("ask", "give", "own", None), SLIP])

MENDS = [("answers", 1, [None, ("own", "yield", "no", "hand"), SLIP]), ("busies", 0, [None])]


def changed(pick):
    return sum(1 for chosen in pick if chosen)


class TestBooks(unittest.TestCase):

    def test_items_in_their_places(self):
        family = Family(example(), [("wishes", 0, [("no", "ask", None), None]), ("answers", 1, [SLIP])])
        self.assertIs(type(family.book((0, 0))), Book)
        self.assertEqual(family.book((0, 0)), example())
        self.assertEqual(family.book((1, 0)), example(wishes=[("no", "ask", None)]))
        self.assertEqual(family.book((2, 0)), example(wishes=[]))
        self.assertEqual(family.book((0, 1)), SLIPPED)
        self.assertEqual(family.book((2, 1)), example(wishes=[], answers=[("ask", "give", "own", None), SLIP]))

    def test_each_part(self):
        parts = full_parts()
        rows = {
            "wishes": ("out", "own", "drop"), "answers": ("odd", "want", "out", "drop"), "idles": ("out", "drop", "give"),
            "busies": ("give", "boss", "want", "out", None, True),
        }
        for part, row in rows.items():
            for index in range(len(parts[part])):
                family = Family(made(parts), [(part, index, [row, None])])
                there = full_parts()
                there[part][index] = row
                self.assertEqual(family.book((1,)), made(there))
                del there[part][index]
                self.assertEqual(family.book((2,)), made(there))
                self.assertEqual(family.picks(), [(0,), (1,), (2,)])

    def test_idles_of_both_forms(self):
        family = Family(example(), [("idles", 0, [("out", "want", "boss", "give", True), ("boss", "want", "take")])])
        self.assertEqual(family.book((1,)), example(idles=[("out", "want", "boss", "give", True)]))
        self.assertEqual(family.book((2,)), example(idles=[("boss", "want", "take")]))

    def test_items_are_left_out_behind_all_choices(self):
        # The indexes are those of the first book, also if an earlier item is left out.
        book = made(full_parts())
        rows = book.wishes()
        choices = [("wishes", 2, [None]), ("wishes", 0, [None, ("own", "own", None)]), ("wishes", 3, [("out", "out", None)])]
        family = Family(book, choices)
        self.assertEqual(family.book((1, 1, 1)).wishes(), [rows[1], ("out", "out", None)])
        self.assertEqual(family.book((1, 2, 0)).wishes(), [("own", "own", None), rows[1], rows[3]])
        self.assertEqual(family.book((0, 1, 0)).wishes(), [rows[1], rows[2], rows[3]])
        self.assertEqual(family.book((1, 1, 0)).answers(), book.answers())

    def test_things_may_be_equal(self):
        row = ("own", "yield", "no", "hand")
        family = Family(example(), [("answers", 1, [row, row, SLIP])])
        self.assertEqual(family.picks(), [(0,), (1,), (2,), (3,)])
        for pick in [(0,), (1,), (2,)]:
            self.assertEqual(family.book(pick), example())
        family = Family(example(), [("answers", 1, [None, None, None])])
        self.assertEqual(len(family), 4)
        self.assertEqual(family.book((1,)), family.book((3,)))

    def test_picks_are_ascending(self):
        family = Family(made(full_parts()), [
            ("wishes", 0, [None, None]), ("busies", 1, [None]), ("wishes", 1, [None, None, None]), ("idles", 0, [None])])
        rows = [tuple(pick) for pick in itertools.product(range(3), range(2), range(4), range(2))]
        self.assertEqual(family.picks(), rows)
        self.assertEqual(len(family), 48)
        self.assertTrue(all(pick in family for pick in rows))

    def test_picks_without_a_book(self):
        # The second answer like the first one: only if the first one is another one, or left out, there is a book.
        choices = [("answers", 0, [None, ("own", "give", "no", None)]), ("answers", 1, [("ask", "give", "no", None)])]
        family = Family(example(), choices)
        self.assertEqual(family.picks(), [(0, 0), (1, 0), (1, 1), (2, 0), (2, 1)])
        self.assertEqual(len(family), 5)
        self.assertNotIn((0, 1), family)
        with self.assertRaises(NoBook) as caught:
            family.book((0, 1))
        self.assertEqual((caught.exception.part, caught.exception.index), ("answers", 1))
        self.assertEqual(family.book((1, 1)).answers(), [("ask", "give", "no", None)])

    def test_the_index_of_no_book_is_that_of_now(self):
        book = made(full_parts())
        rows = book.answers()
        family = Family(book, [("answers", 0, [None]), ("answers", 2, [rows[1]]), ("busies", 2, [book.busies()[1]])])
        for pick, part, index in [((0, 1, 0), "answers", 2), ((1, 1, 0), "answers", 1), ((0, 0, 1), "busies", 2),
                                  ((1, 1, 1), "answers", 1)]:
            with self.assertRaises(NoBook) as caught:
                family.book(pick)
            self.assertEqual((caught.exception.part, caught.exception.index), (part, index))
            self.assertNotIn(pick, family)
        self.assertEqual(family.picks(), [(0, 0, 0), (1, 0, 0)])

    def test_two_items_of_idles(self):
        parts = example_parts()
        parts["idles"].append(("boss", "want", "take"))
        family = Family(made(parts), [("idles", 1, [("out", "want", "out", None, False), ("out", "hand", "take")])])
        self.assertEqual(family.picks(), [(0,), (2,)])
        self.assertNotIn((1,), family)
        self.assertIn((2,), family)

    def test_no_picks(self):
        family = Family(example(), MENDS)
        no_picks = [value for value in odd_values()] + [
            (0, 0, 0), (4, 0), (0, 2), (-1, 0), (0, -1), [0, 0], (True, 0), (0, False), (0, None), ("0", 0), (0, (0,)),
            ([0], 0), ({}, 0), (0, 10 ** 30), nested(0, 30), (nested(0, 29), 0), (example(), 0), (first(example(), 1), 0),
            family, (family, 0)]
        for pick in no_picks:
            with self.assertRaises(NoPick):
                family.book(pick)
            self.assertIs(pick in family, False)
        self.assertIs((0, 0) in family, True)

    def test_membership_is_a_flag(self):
        choices = [("answers", 1, [("ask", "give", "no", None)])]
        self.assertIs((1,) in Family(example(), choices), False)
        self.assertIs((0,) in Family(example(), choices), True)

    def test_what_is_handed_in_is_copied(self):
        items = [None, SLIP]
        choices = [("answers", 1, items)]
        family = Family(example(), choices)
        items.clear()
        choices.clear()
        self.assertEqual(family.picks(), [(0,), (1,), (2,)])
        self.assertEqual(family.book((2,)), SLIPPED)
        family.picks().clear()
        self.assertEqual(len(family), 3)
        family.book((2,)).answers().clear()
        self.assertEqual(family.book((2,)), SLIPPED)
        given = [("answers", 1, [None, SLIP])]
        Family(example(), given)
        self.assertEqual(given, [("answers", 1, [None, SLIP])])


class TestNoFamily(unittest.TestCase):

    def wrong(self, choices, index, book=None):
        with self.assertRaises(NoFamily) as caught:
            Family(book or example(), choices)
        self.assertEqual(caught.exception.index, index)

    def test_the_list(self):
        for value in odd_values() + [("wishes", 0, [None]), (("wishes", 0, [None]),), {}, Family(example(), MENDS)]:
            if not isinstance(value, list) or value == []:
                self.wrong(value, -1)
        rows = [("wishes", index, [None]) for index in range(4)]
        book = made(full_parts())
        self.assertEqual(len(Family(book, rows)), 16)
        self.wrong(rows + [("answers", 0, [None])], -1, book)
        self.wrong(rows * 2, -1, book)
        self.wrong([None] * 5, -1)
        self.wrong([], -1)

    def test_the_first_wrong_choice(self):
        good = ("wishes", 0, [None])
        for value in odd_values() + [
                ["wishes", 0, [None]], ("wishes", 0), ("wishes", 0, [None], 0), ("states", 0, [None]), ("ups", 0, [None]),
                ("downs", 0, [None]), ("marks", 0, [None]), ("tasks", 0, [None]), ("Wishes", 0, [None]), (None, 0, [None]),
                (["wishes"], 0, [None]), ({}, 0, [None]), ("wishes", 1, [None]), ("wishes", -1, [None]), ("busies", 1, [None]),
                ("wishes", True, [None]), ("wishes", False, [None]), ("wishes", None, [None]), ("wishes", "0", [None]),
                ("wishes", 10 ** 30, [None]), ("wishes", 0, []), ("wishes", 0, [None] * 4), ("wishes", 0, (None,)),
                ("wishes", 0, None), ("wishes", 0, {}), ("wishes", 0, ("no", "ask", None)), ("answers", 2, [None]),
                (example(), 0, [None]), nested("wishes", 30)]:
            self.wrong([value], 0)
            self.wrong([("answers", 0, [None]), value], 1)
            self.wrong([value, good, value], 0)
        self.assertEqual(len(Family(example(), [good])), 2)

    def test_the_items(self):
        rows = {
            "wishes": [("no", "ask"), ("no", "ask", "want", "want"), ["no", "ask", None], ("no", "gone", None),
                       ("gone", "ask", None), ("no", "ask", "give"), ("no", "ask", False), ("out", "ask", None)],
            "answers": [("own", "yield", "no"), ("own", "hand", "no", "hand"), ("own", "yield", "gone", None),
                        ("own", None, "no", None), ("own", "yield", "no", "give"), ["own", "yield", "no", None]],
            "idles": [("out", "want"), ("out", "give", "take"), ("own", "want", "take"), ("out", "want", "gone"),
                      ("out", "want", "out", None), ("out", "want", "out", None, None), ("out", "want", "out", None, 1),
                      ("out", "want", "out", "want", True), ("out", None, "take"), ("out", "want", None)],
            "busies": [("take", "boss", "hand", "out", None), ("boss", "hand", "out", None, True),
                       ("take", "boss", "give", "out", None, True), ("take", "own", "hand", "out", None, True),
                       ("gone", "boss", "hand", "out", None, True), ("take", "boss", "hand", "out", None, 0)],
        }
        for part, wrong in rows.items():
            good = example_parts()[part][0]
            for item in wrong + [value for value in odd_values() if value is not None]:
                self.wrong([(part, 0, [item])], 0)
                self.wrong([(part, 0, [None, good, item])], 0)
                self.wrong([("answers" if part != "answers" else "wishes", 0, [None]), (part, 0, [good, item])], 1)
            self.assertGreater(len(Family(example(), [(part, 0, [good, None, good])])), 1)

    def test_the_same_place_twice(self):
        good = [("wishes", 0, [None]), ("answers", 0, [None]), ("busies", 0, [None])]
        for at, row in enumerate(good):
            for place in range(at + 1, 4):
                thing = good[:place] + [row[:2] + ([None, None],)] + good[place:]
                self.wrong(thing, place)
        self.assertEqual(len(Family(example(), good)), 8)
        # A choice that is wrong by itself goes ahead, if it stands ahead.
        self.wrong([good[0], ("wishes", 1, [None]), good[0]], 1)
        self.wrong([good[0], good[0], ("wishes", 1, [None])], 1)


class SortCase(unittest.TestCase):

    def asked(self, family, **bounds):
        """What decide tells for each pick, Undecided as an error."""
        found = {}
        for pick in family.picks():
            try:
                found[pick] = decide(family.book(pick), **bounds)[:2]
            except Undecided:
                found[pick] = ("open", 0)
        return found

    def compare(self, family, **bounds):
        """Compares the sorted family, the least mends and their paper with what decide tells; returns the mends."""
        words = self.asked(family, **bounds)
        self.assertEqual(sort_family(family, **bounds), [(pick,) + words[pick] for pick in family.picks()])
        right = [pick for pick in family.picks() if words[pick][0] == "right"]
        least = min([changed(pick) for pick in right], default=4)
        mends = [pick for pick in right if changed(pick) == least]
        self.assertEqual(least_mends(family, **bounds), mends)
        asked = [pick for pick in family.picks() if changed(pick) <= least]
        if any(words[pick][0] == "open" for pick in asked):
            with self.assertRaises(Undecided):
                mends_paper(family, **bounds)
            return mends
        found = mends_paper(family, **bounds)
        self.assertEqual((type(found), type(found[0]), type(found[1]), len(found)), (tuple, list, dict, 2))
        self.assertEqual(found[0], mends)
        self.assertEqual(sorted(found[1]), asked)
        for pick in asked:
            self.assertEqual(found[1][pick], decide(family.book(pick), **bounds))
        self.assertIsNone(mends_fault(family, found[0], found[1]))
        return mends


class TestSort(SortCase):

    def test_a_slip(self):
        family = Family(SLIPPED, MENDS)
        self.assertEqual(self.compare(family), [(2, 0)])
        self.assertEqual(sort_family(family)[0], ((0, 0), "wrong", 2))
        self.assertEqual(sort_family(family)[4], ((2, 0), "right", 1))

    def test_a_right_book_needs_no_mend(self):
        for choices in (MENDS, [("wishes", 0, [None])], [("wishes", 0, [None, ("no", "ask", "want")])]):
            family = Family(example(), choices)
            mends = self.compare(family)
            self.assertEqual(mends, [(0,) * len(choices)])

    def test_several_mends(self):
        # Without the wish, or with one that asks for nothing, nothing goes wrong either.
        family = Family(SLIPPED, MENDS + [("wishes", 0, [None, ("no", "no", None)])])
        self.assertEqual(self.compare(family), [(0, 0, 1), (0, 0, 2), (2, 0, 0)])

    def test_equal_things_are_picks_of_their_own(self):
        row = ("own", "yield", "no", "hand")
        family = Family(SLIPPED, [("answers", 1, [SLIP, row, row])])
        self.assertEqual(self.compare(family), [(2,), (3,)])

    def test_two_changes(self):
        book = example(answers=[("ask", "give", "own", None), SLIP], busies=[])
        family = Family(book, [("answers", 1, [("own", "yield", "no", "hand")]), ("idles", 0, [("out", "hand", "take")])])
        self.assertEqual(self.compare(family), [(0, 1)])
        family = Family(example(idles=[("out", "want", "boss", "give", False)], busies=[]),
                        [("idles", 0, [("out", "want", "take")]), ("answers", 0, [None]), ("answers", 1, [None])])
        self.assertEqual(self.compare(family), [(0, 1, 0)])
        family = Family(kit(wishes=[("no", "has", None), ("no", "own", None)]),
                        [("wishes", 0, [None, ("no", "keep", None)]), ("wishes", 1, [("no", "no", None)])])
        self.assertEqual(self.compare(family), [(1, 1), (2, 1)])

    def test_three_and_four_changes(self):
        # Each of these wishes leads to what is stale, so each has to be mended.
        wishes = [("no", "has", None), ("no", "own", None), ("ask", "has", None), ("ask", "own", None), ("no", "ask", None)]
        for many in (3, 4):
            book = kit(wishes=wishes[:many] + wishes[4:])
            family = Family(book, [("wishes", index, [None]) for index in range(many)])
            self.assertEqual(self.compare(family), [(1,) * many])
            family = Family(book, [("wishes", index, [("no", "keep", None), None]) for index in range(many)])
            self.assertEqual(len(self.compare(family)), 2 ** many)
            thing, papers = mends_paper(family)
            self.assertEqual(len(papers), 3 ** many)
            lacking = {pick: papers[pick] for pick in papers if pick != (2,) * many}
            self.assertEqual(mends_fault(family, thing, lacking), ("paper", (2,) * many))

    def test_no_mends(self):
        family = Family(SLIPPED, [("answers", 1, [None]), ("busies", 0, [None])])
        self.assertEqual(self.compare(family), [])
        thing, papers = mends_paper(family)
        self.assertEqual((thing, sorted(papers)), ([], family.picks()))

    def test_open_ones(self):
        # It takes four caches, so three leave it open.
        family = Family(wrong_by_four(), [("wishes", 0, [None])])
        self.assertEqual(sort_family(family), [((0,), "open", 0), ((1,), "right", 1)])
        self.assertEqual(self.compare(family), [(1,)])
        self.assertEqual(sort_family(family, caches=4), [((0,), "wrong", 4), ((1,), "right", 1)])
        self.assertEqual(self.compare(family, caches=4), [(1,)])
        with self.assertRaises(Undecided):
            mends_paper(family)
        mends_paper(family, caches=4)

    def test_open_ones_with_more_changes_play_no_part(self):
        # What is open changes more than the least mends.
        family = Family(without_wishes(wrong_by_four()), [("wishes", 0, [("no", "ask", "want")])])
        self.assertEqual(sort_family(family), [((0,), "right", 1), ((1,), "open", 0)])
        self.assertEqual(self.compare(family), [(0,)])
        self.assertEqual(sorted(mends_paper(family)[1]), [(0,)])

    def test_numbers_of_views(self):
        family = Family(right_by_two(), [("wishes", 0, [None, ("no", "ask", "want")]), ("idles", 2, [None])])
        self.assertEqual(sort_family(family)[0], ((0, 0), "right", 2))
        self.assertEqual(self.compare(family), [(0, 0)])

    def test_bounds(self):
        family = Family(SLIPPED, MENDS)
        for bounds in ({"caches": 1}, {"caches": 2}, {"most": 10}, {"most": 35}, {"most": 36}, {"caches": 1, "most": 1}):
            self.compare(family, **bounds)
        self.assertEqual(least_mends(family, most=1, caches=1), [])
        with self.assertRaises(Undecided):
            mends_paper(family, most=1, caches=1)

    def test_picks_without_a_book_are_not_asked(self):
        choices = [("answers", 0, [None]), ("answers", 1, [("ask", "give", "no", None), ("own", "yield", "no", "hand")])]
        family = Family(SLIPPED, choices)
        self.assertNotIn((0, 1), family)
        self.assertEqual(self.compare(family), [(0, 2)])

    def test_fewer_wishes_or_idles_keep_a_book_right(self):
        for parts in (example_parts(), shared_parts()):
            choices = [("wishes", 0, [None]), ("idles", 0, [None])]
            for _, word, number in sort_family(Family(made(parts), choices)):
                self.assertEqual((word, number), ("right", 1))

    def test_what_is_returned_is_new(self):
        family = Family(SLIPPED, MENDS)
        thing, papers = mends_paper(family)
        lists = [thing] + [paper[2] for paper in papers.values()]
        self.assertEqual(len({id(one) for one in lists}), len(lists))
        thing.clear()
        papers.clear()
        self.assertEqual(least_mends(family), [(2, 0)])
        least_mends(family).clear()
        self.assertEqual(mends_paper(family)[0], [(2, 0)])
        sort_family(family).clear()
        self.assertEqual(len(sort_family(family)), 8)

    def test_arguments(self):
        family = Family(example(), MENDS)
        for ask in (sort_family, least_mends, mends_paper):
            for caches in NO_MANY:
                for most in (3000, 0):
                    with self.assertRaises(NoMany):
                        ask(family, caches=caches, most=most)
            for most in NO_MOST:
                with self.assertRaises(NoMost):
                    ask(family, caches=2, most=most)


def without_wishes(book):
    """The book with a wish that does nothing, in the place of all its wishes."""
    return Book(book.states(), book.ups(), book.downs(), book.marks(), [("no", "no", None)], book.answers(), book.tasks(),
                book.idles(), book.busies())


class TestFault(unittest.TestCase):

    def setUp(self):
        self.family = Family(SLIPPED, MENDS + [("wishes", 0, [None])])
        self.thing, self.papers = mends_paper(self.family)

    def tells(self, fault, thing="same", papers="same", family=None):
        thing = self.thing if thing == "same" else thing
        papers = self.papers if papers == "same" else papers
        kept = (list(thing), dict(papers)) if isinstance(thing, list) and isinstance(papers, dict) else None
        self.assertEqual(mends_fault(family or self.family, thing, papers), fault)
        if kept:
            self.assertEqual((thing, papers), kept)

    def test_without_fault(self):
        self.assertEqual(self.thing, [(0, 0, 1), (2, 0, 0)])
        self.tells(None)
        self.tells(None, papers={**self.papers, "more": 1, (9, 9): None, None: [], (0, 1): 0})

    def test_form_of_the_thing(self):
        for value in odd_values() + [(), tuple(self.thing), {}, self.papers]:
            if value != []:
                self.tells(("form",), thing=value)
        for value in ([(0, 0, 1), (0, 0, 1)], [(2, 0, 0), (0, 0, 1)], [(0, 0, 0), (0, 0, 1)], [(0, 0, 1), (2, 0, 1)],
                      [(0, 0)], [(0, 0, 2)], [(4, 0, 0)], [[0, 0, 1]], [(0, 0, True)], [(False, 0, 1)], [None], [0],
                      self.thing + [None], [None] + self.thing, [(0, 0, 1), (2, 0, 0), (2, 0, 0)], [{}], [()],
                      [nested(0, 30)], [example()]):
            self.tells(("form",), thing=value)

    def test_form_of_the_papers(self):
        for value in odd_values() + [list(self.papers.items()), (self.papers,), [self.papers]]:
            if not isinstance(value, dict):
                self.tells(("form",), papers=value)
        self.tells(("form",), thing=0, papers=0)

    def test_picks_without_a_book_are_no_things(self):
        choices = [("answers", 0, [None]), ("answers", 1, [("ask", "give", "no", None)])]
        family = Family(SLIPPED, choices)
        self.tells(("form",), thing=[(0, 1)], papers={}, family=family)
        thing, papers = mends_paper(family)
        self.assertNotIn((0, 1), papers)
        self.tells(None, thing, papers, family)

    def test_papers_that_are_lacking(self):
        for pick in self.papers:
            self.tells(("paper", pick), papers={one: paper for one, paper in self.papers.items() if one != pick})
        self.tells(("paper", (0, 0, 0)), papers={})
        first_two = sorted(self.papers)[:2]
        self.tells(("paper", first_two[0]), papers={one: self.papers[one] for one in self.papers if one not in first_two})

    def test_papers_that_do_not_hold(self):
        for pick, paper in self.papers.items():
            word, number, proof = paper
            other = "wrong" if word == "right" else "right"
            bad = [
                (other, number, proof), (word, number, proof[:-1]), (word, 7, proof), (word, 0, proof), (word, True, proof),
                (word, None, proof), (word, str(number), proof), [word, number, proof], (word, number), (word, number, None),
                (word, number, proof, None), (word, number, tuple(proof)), None, (None, number, proof), ([word], number, proof),
                (word, number, proof + [None]), "right", (word, number, nested(proof, 28)), {}, (example(), number, proof),
                (word, [number], proof)]
            if word == "right":
                bad += [(word, 4, proof), (word, 2, proof), (word, 1, [])]
            else:
                bad += [(word, number % 6 + 1, [("wish", number % 6, 0), ("wish", 5, 5)]), (word, number, proof + [("end",)])]
            for value in bad:
                self.tells(("paper", pick), papers={**self.papers, pick: value})

    def test_papers_that_are_exchanged(self):
        picks = sorted(self.papers)
        for one, other in itertools.combinations(picks, 2):
            papers = {**self.papers, one: self.papers[other], other: self.papers[one]}
            fault = mends_fault(self.family, self.thing, papers)
            if (one in self.thing) != (other in self.thing):
                self.assertEqual(fault, ("paper", one))
            else:
                self.assertIn(fault, (None, ("paper", one), ("paper", other)))

    def test_a_longer_proof_serves_as_well(self):
        # More caches, and views of 2.
        pick = (0, 0, 0)
        run = [("wish", 2, 0)] + self.papers[pick][2]
        if run_fault(SLIPPED, 3, run) is None:
            self.tells(None, papers={**self.papers, pick: ("wrong", 3, run)})
        for n in range(2, 7):
            self.tells(None, papers={**self.papers, pick: ("wrong", n, self.papers[pick][2])})
        self.tells(("paper", pick), papers={**self.papers, pick: ("wrong", 1, self.papers[pick][2])})
        right = (2, 0, 0)
        for k in (1, 2, 3):
            found = views(self.family.book(right), k, most=20000)[1]
            self.assertIsNone(closed_fault(self.family.book(right), k, found))
            self.tells(None, papers={**self.papers, right: ("right", k, found)})

    def test_things_that_are_not_the_least_mends(self):
        # One of the mends lacks, so its paper should be of a wrong book.
        self.tells(("paper", (2, 0, 0)), thing=[(0, 0, 1)])
        self.tells(("paper", (0, 0, 1)), thing=[(2, 0, 0)])
        self.tells(("paper", (0, 0, 1)), thing=[])
        # A wrong book is among the things.
        self.tells(("paper", (0, 1, 0)), thing=[(0, 0, 1), (0, 1, 0), (2, 0, 0)])
        self.tells(("paper", (0, 0, 0)), thing=[(0, 0, 0)])
        # Things with more changes: those with fewer, which are right, should be wrong.
        self.tells(("paper", (0, 0, 1)), thing=[(2, 0, 1)])

    def test_the_empty_thing(self):
        family = Family(SLIPPED, [("answers", 1, [None]), ("busies", 0, [None])])
        thing, papers = mends_paper(family)
        self.tells(None, thing, papers, family)
        for pick in family.picks():
            self.tells(("paper", pick), [], {one: papers[one] for one in papers if one != pick}, family)
        self.tells(("paper", (0, 0)), [], {}, family)

    def test_picks_with_more_changes_need_no_papers(self):
        self.assertNotIn((2, 1, 0), self.papers)
        self.tells(None, papers={**self.papers, (2, 1, 0): ("right", 9, None)})

    def test_a_book_with_one_choice(self):
        family = Family(small(wishes=[("no", "no", None)]), [("wishes", 0, [None])])
        thing, papers = mends_paper(family)
        self.tells(None, thing, papers, family)
        self.tells(("paper", (0,)), thing, {}, family)
        self.tells(("paper", (0,)), [(1,)], {(1,): decide(family.book((1,)))}, family)


if __name__ == "__main__":
    unittest.main()
