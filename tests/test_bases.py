"""Points [37] and [38]: bases, and what they decide."""

import itertools
import unittest

from copybooks.basejudge import base_fault, harm
from copybooks.bases import bag_verdict, base, cutoff, family_cutoff, greatest, verdict
from copybooks.deciding import decide
from copybooks.errors import NoBag, NoMost, TooMany, Undecided
from copybooks.families import Family
from copybooks.moments import first, played
from copybooks.searches import fewest, shortest
from copybooks.views import views
from tests.naive_views import naive_of
from tests.samples import (
    Chance, both_become_others, called_twice, chance_book, example, example_parts, full_parts, made, near_book, putting,
    renamed_parts, right_by_three, right_by_two, shared_parts, small, told_by_calls, wrong_by_five, wrong_by_four,
)
from tests.test_basejudge import CALLED, STALE
from tests.test_searches import NO_MOST
from tests.test_steps import kit
from tests.test_viewjudge import ASK, ASKED, no_views
from tests.test_views import NO, START, all_moments, own
from tests.test_views_chance import other_local

ONE = kit(wishes=[("no", "has", None)])


def caches_of(bag):
    """How many caches the bag has."""
    (_, _, owner, asker), others = bag
    return len([one for one in (owner, asker) if one not in (None, "asker")]) + len(others)


def bag_of(moment):
    """The bag of all caches of a moment."""
    (task, memory, owner, asker), caches = moment.home(), moment.caches()
    told = None if owner is None else "asker" if owner == asker else caches[owner]
    others = tuple(sorted(cache for i, cache in enumerate(caches) if i not in (owner, asker)))
    return ((task, memory, told, None if asker is None else caches[asker]), others)


class BaseCase(unittest.TestCase):

    def is_base(self, book, most=20000):
        """Checks the base by its judge, with a run for each bag, and the bound at its edge; returns it."""
        bags = base(book, most=most)
        self.assertIs(type(bags), list)
        self.assertEqual(len(set(bags)), len(bags))
        for bag in bags:
            self.assertEqual((type(bag), len(bag), type(bag[1])), (tuple, 2, tuple))
            self.assertEqual(list(bag[1]), sorted(bag[1]))
            self.assertLessEqual(caches_of(bag), 6)
        runs = [harm(book, bag, most=20000) for bag in bags]
        self.assertNotIn(None, runs)
        self.assertIsNone(base_fault(book, bags, runs, most=most))
        return bags

    def too_many(self, book, most):
        for ask in (base, cutoff, greatest):
            with self.assertRaises(TooMany) as caught:
                ask(book, most=most)
            self.assertEqual(caught.exception.most, most)
        with self.assertRaises(TooMany):
            verdict(first(book, 2), most=most)


class TestBase(BaseCase):

    def test_nothing_is_harmful(self):
        for book in (example(), made(shared_parts()), small(), putting(), kit(), both_become_others(), told_by_calls()):
            self.assertEqual(base(book), [])
            self.assertEqual(greatest(book), 0)
            self.assertIsNone(cutoff(book))

    def test_one_cache_alone(self):
        # A cache may read what it never got; before that it may wish to.
        bags = self.is_base(ONE)
        self.assertEqual(sorted(bags), [(START, (("has", "none", "out", (), ()),)), (START, (NO,))])
        self.assertEqual((cutoff(ONE), greatest(ONE)), (1, 1))

    def test_two_others(self):
        bags = self.is_base(called_twice())
        self.assertEqual(len(bags), 27)
        self.assertIn((START, (("ask", "none", "out", (("want", None),), ()), CALLED)), bags)
        self.assertEqual((cutoff(called_twice()), greatest(called_twice())), (2, 2))

    def test_a_put_of_another_one(self):
        # One other puts, and what the second one has is an elder one, which it may go and read.
        book = kit(states=[("no", ""), ("own", "hp"), ("has", "hr")], wishes=[("no", "own", None), ("own", "has", None)])
        self.assertIn((START, (own("none"),)), self.is_base(book))

    def test_controls_with_owner_and_asker(self):
        book = example(answers=example_parts()["answers"][:1])
        bags = self.is_base(book)
        kinds = {(bag[0][2] is not None, bag[0][3] is not None, len(bag[1])) for bag in bags}
        self.assertIn((True, True, 0), kinds)
        self.assertIn((True, False, 1), kinds)
        self.assertEqual(cutoff(book), 2)

    def test_known_sizes(self):
        for book, many, most in [
                (right_by_two(), 74, 3), (right_by_three(), 153, 3), (wrong_by_four(), 82, 4),
                (near_book(1, shared_parts()), 71, 3), (near_book(2, shared_parts()), 29, 2)]:
            self.assertEqual(len(self.is_base(book)), many)
            self.assertEqual(greatest(book), most)

    def test_word_by_word(self):
        # All least bags with up to two others, of those that run out of moments that fit.
        met = set()
        for seed in range(40):
            for book in (chance_book(seed), near_book(seed, example_parts())):
                plain = naive_of(book)
                given = plain.closed(1, 26)
                if len(given) > 26:
                    continue
                bags = self.is_base(book)
                least = []
                for bag in plain.fitting(given, 2):
                    if not plain.contains(bag, least) and plain.harm(bag, 10 ** 4)[0] is not None:
                        least.append(bag)
                self.assertEqual(sorted([bag for bag in bags if len(bag[1]) <= 2], key=str), sorted(least, key=str))
                met |= {len(bag[1]) for bag in bags}
        self.assertLessEqual({0, 1, 2}, met)

    def test_nearly_right_books(self):
        met = set()
        for seed in range(60):
            for parts in (example_parts(), shared_parts()):
                book = near_book(seed, parts)
                try:
                    base(book, most=150)
                except TooMany:
                    continue
                bags = self.is_base(book)
                met.add(greatest(book))
                self.assertEqual(greatest(book), max([len(others) for _, others in bags] + [0]))
                self.assertEqual(bags == [], views(book, 1)[0] == "closed")
        self.assertLessEqual({0, 1, 2, 3}, met)

    def test_a_right_book_may_have_a_base(self):
        for book in (right_by_two(), right_by_three()):
            self.assertNotEqual(base(book), [])
            self.assertIsNone(cutoff(book))
            # From so many others on, the views are not bad.
            self.assertEqual(views(book, greatest(book))[0], "closed")

    def test_what_is_returned_is_new(self):
        bags = base(ONE)
        bags.clear()
        self.assertEqual(len(base(ONE)), 2)
        self.assertIsNot(base(example()), base(example()))


class TestBounds(BaseCase):

    def test_more_views_than_most(self):
        for book, many in ((example(), 36), (small(), 2), (right_by_three(), None), (called_twice(), None)):
            many = many or len(naive_of(book).closed(1, 300))
            if len(base(book)) <= many:
                base(book, most=many)
            self.too_many(book, many - 1)
            self.too_many(book, 1)

    def test_more_bags_than_most(self):
        # 27 views of 1 and 74 bags; 6477 bags and fewer views.
        self.assertEqual(len(naive_of(right_by_two()).closed(1, 100)), 27)
        self.assertEqual(len(base(right_by_two(), most=74)), 74)
        self.assertEqual((cutoff(right_by_two(), most=74), greatest(right_by_two(), most=74)), (None, 3))
        for most in (73, 27, 26):
            self.too_many(right_by_two(), most)
        self.assertEqual(len(base(wrong_by_five(), most=6477)), 6477)
        for bounds in ({}, {"most": 6476}):
            with self.assertRaises(TooMany) as caught:
                base(wrong_by_five(), **bounds)
            self.assertEqual(caught.exception.most, bounds.get("most", 2000))

    def test_as_many_views_as_bags(self):
        # Of one book there are more bags than views, of the other one fewer.
        for book in [right_by_two(), called_twice(), ONE] + [near_book(seed, example_parts()) for seed in range(12)]:
            many = max(len(naive_of(book).closed(1, 100)), len(base(book, most=20000)))
            if many <= 100:
                base(book, most=many)
                verdict(first(book, 1), most=many)
                if many > 1:
                    self.too_many(book, many - 1)


class TestCutoff(BaseCase):

    def test_known(self):
        for book, n in [
                (called_twice(), 2), (wrong_by_four(), 4), (near_book(25, shared_parts()), 3), (ONE, 1), (example(), None),
                (right_by_two(), None), (right_by_three(), None)]:
            self.assertEqual(cutoff(book), n)
        self.assertEqual(cutoff(wrong_by_five(), most=20000), 5)

    def test_it_decides_what_decide_leaves_open(self):
        with self.assertRaises(Undecided):
            decide(wrong_by_four())
        run = shortest(wrong_by_four(), cutoff(wrong_by_four()))
        self.assertIsNotNone(run)
        self.assertIsNone(fewest(wrong_by_four(), caches=3))

    def test_it_agrees_with_decide(self):
        met = set()
        for seed in range(80):
            for book in (chance_book(seed), near_book(seed, example_parts()), near_book(seed, shared_parts())):
                try:
                    n, found = cutoff(book), decide(book)
                except (TooMany, Undecided):
                    continue
                self.assertEqual(found[0] == "right", n is None)
                if n is not None:
                    self.assertEqual(found[1], n)
                met.add(n)
        self.assertEqual(met, {None, 1, 2, 3})

    def test_controls_that_are_not_the_first_one(self):
        # The least bags of this book have other controls, or others that have gone on.
        bags = base(right_by_three())
        self.assertTrue(any(control == START for control, _ in bags))
        self.assertTrue(any(set(others) == {("no", "none", "a", (), ())} for _, others in bags))
        self.assertIsNone(cutoff(right_by_three()))


class TestVerdict(BaseCase):

    def test_moments_of_right_books(self):
        for n in (1, 2, 3):
            for moment in all_moments(example(), n)[::5]:
                self.assertEqual(verdict(moment), "harmless")
        for moment in all_moments(right_by_two(), 2):
            self.assertEqual(verdict(moment), "harmless")

    def test_moments_of_a_wrong_book(self):
        book = wrong_by_four()
        self.assertEqual([verdict(first(book, n)) for n in range(1, 7)], ["harmless"] * 3 + ["harmful"] * 3)
        moment = first(book, 4)
        for step in shortest(book, 4):
            moment = moment.after(step)
            self.assertEqual(verdict(moment), "harmful")

    def test_each_moment_that_can_be_come_to(self):
        met = set()
        for seed in range(30):
            for book in (chance_book(seed), near_book(seed, example_parts())):
                try:
                    base(book, most=120)
                except TooMany:
                    continue
                moment = first(book, 1 + seed % 3)
                chance = Chance(seed)
                for _ in range(5):
                    word = verdict(moment)
                    met.add(word)
                    run = harm(book, bag_of(moment), most=20000)
                    self.assertEqual(word, "harmless" if run is None else "harmful")
                    self.assertEqual(bag_verdict(book, bag_of(moment)), word)
                    moment = moment.after(chance.one_of(moment.steps() or [("end",)])) if moment.steps() else moment
        self.assertEqual(met, {"harmless", "harmful"})

    def test_bags(self):
        # A bag that does not fit is unfit, harmful or not.
        self.assertEqual(bag_verdict(example(), (START, (STALE,))), "unfit")
        self.assertEqual(bag_verdict(example(), (START, (NO, STALE))), "unfit")
        self.assertEqual(bag_verdict(example(), (START, (own("last"), own("last")))), "unfit")
        self.assertEqual(bag_verdict(example(), ((None, "none", None, None), ())), "unfit")
        self.assertEqual(bag_verdict(example(), ((None, "none", None, None), (NO,))), "unfit")
        for others in ((), (NO,), (ASKED, NO), (ASKED,) * 6, (ASKED, NO, NO, NO, NO, NO)):
            self.assertEqual(bag_verdict(example(), (START, others)), "harmless")
        self.assertEqual(bag_verdict(example(), (("take", "last", None, ASK), (ASKED, NO))), "harmless")
        self.assertEqual(bag_verdict(ONE, (START, ())), "harmless")
        self.assertEqual(bag_verdict(ONE, (START, (NO,))), "harmful")
        self.assertEqual(bag_verdict(ONE, (START, (NO,) * 6)), "harmful")
        self.assertEqual(bag_verdict(ONE, (START, (ASK,))), "unfit")

    def test_six_caches(self):
        self.assertEqual(verdict(first(ONE, 6)), "harmful")
        self.assertEqual(verdict(first(example(), 6)), "harmless")

    def test_bags_word_by_word(self):
        met, chance = set(), Chance(77)
        for book in (called_twice(), right_by_two(), ONE, example(), near_book(6, shared_parts())):
            plain = naive_of(book)
            given = plain.closed(1, 300)
            bags = base(book)
            rows = plain.fitting(given, 2)
            for _ in range(14):
                control, others = chance.one_of(rows)
                if chance.below(3) == 0 and others:
                    others = tuple(sorted(others[1:] + (other_local(chance, book, others[0]),)))
                fits = plain.views((control, others), 1) <= given
                word = "unfit"
                if fits:
                    word = "harmful" if plain.contains((control, others), bags) else "harmless"
                    self.assertEqual(plain.harm((control, others), 10 ** 4)[0] is not None, word == "harmful")
                self.assertEqual(bag_verdict(book, (control, others)), word)
                met.add(word)
        self.assertEqual(met, {"unfit", "harmful", "harmless"})

    def test_parts_with_other_locals_between(self):
        # A bag is contained in whatever order its others stand among further ones.
        bags = [bag for bag in base(right_by_three()) if len(bag[1]) == 3]
        self.assertTrue(bags)
        singles = {}
        for control, others in naive_of(right_by_three()).closed(1, 300):
            singles.setdefault(control, set()).update(others)
        for control, others in bags[::25]:
            for more in itertools.combinations(sorted(singles[control]), 2):
                bag = (control, tuple(sorted(others + more)))
                if caches_of(bag) <= 6:
                    self.assertEqual(bag_verdict(right_by_three(), bag), "harmful")
            for at in range(3):
                less = (control, others[:at] + others[at + 1:])
                self.assertEqual(bag_verdict(right_by_three(), less), "harmless")

    def test_other_names(self):
        for parts in (example_parts(), shared_parts()):
            for seed in (1, 2, 6, 25):
                book = near_book(seed, made_new(parts))
                other = made(renamed_parts(parts_of(book)))
                self.assertEqual(len(base(book, most=20000)), len(base(other, most=20000)))
                self.assertEqual(cutoff(book, most=20000), cutoff(other, most=20000))
                self.assertEqual(greatest(book, most=20000), greatest(other, most=20000))


def made_new(parts):
    """The parts as lists that may be changed."""
    return {part: list(rows) for part, rows in parts.items()}


def parts_of(book):
    """The parts of a book."""
    return {"states": book.states(), "ups": book.ups(), "downs": book.downs(), "marks": book.marks(),
            "wishes": book.wishes(), "answers": book.answers(), "tasks": book.tasks(), "idles": book.idles(),
            "busies": book.busies()}


class TestFamilyCutoff(BaseCase):

    def test_all_right(self):
        self.assertEqual(family_cutoff(Family(example(), [("wishes", 0, [None, ("no", "ask", None)])])), 0)

    def test_the_greatest_cutoff(self):
        choices = [("answers", 1, [None, ("own", "yield", "own", "hand")]), ("wishes", 0, [("no", "own", None)])]
        family = Family(example(), choices)
        found = [cutoff(family.book(pick)) for pick in family.picks()]
        self.assertEqual(len(found), 6)
        self.assertEqual({None, 1, 2}, set(found))
        self.assertEqual(family_cutoff(family), 2)
        self.assertEqual(family_cutoff(Family(ONE, [("wishes", 0, [("no", "no", None)])])), 1)
        self.assertEqual(family_cutoff(Family(wrong_by_four(), [("wishes", 0, [None])])), 4)

    def test_picks_without_a_book_play_no_part(self):
        # The second answer like the first one makes no book.
        family = Family(example(), [("answers", 1, [("ask", "give", "no", None)])])
        self.assertEqual(family.picks(), [(0,)])
        self.assertEqual(family_cutoff(family), 0)

    def test_too_many(self):
        # The right one of them has the most views.
        family = Family(example(), [("wishes", 0, [None])])
        self.assertEqual(family_cutoff(family, most=36), 0)
        with self.assertRaises(TooMany) as caught:
            family_cutoff(family, most=35)
        self.assertEqual(caught.exception.most, 35)
        family = Family(ONE, [("wishes", 0, [None])])
        self.assertEqual(family_cutoff(family, most=3), 1)
        with self.assertRaises(TooMany):
            family_cutoff(family, most=2)


class TestArguments(BaseCase):

    def test_most(self):
        family = Family(example(), [("wishes", 0, [None])])
        for most in NO_MOST:
            for ask, thing in ((base, example()), (cutoff, example()), (greatest, example()), (verdict, first(example(), 1)),
                               (family_cutoff, family)):
                with self.assertRaises(NoMost):
                    ask(thing, most=most)
            with self.assertRaises(NoMost):
                bag_verdict(example(), (START, (NO,)), most=most)

    def test_bags_ahead_of_most(self):
        for bag in no_views() + [(START, (NO,) * 7), (("take", "last", own("last"), ASK), (NO,) * 5)]:
            for most in (2000, 1, 0, None):
                with self.assertRaises(NoBag):
                    bag_verdict(example(), bag, most=most)
        with self.assertRaises(NoMost):
            bag_verdict(made(full_parts()), ((None, "last", None, None), ()), most=0)
        with self.assertRaises(TooMany):
            bag_verdict(example(), (START, (NO,)), most=35)
        # Whether the bag fits is asked behind the bounds.
        with self.assertRaises(TooMany):
            bag_verdict(example(), (START, (STALE,)), most=35)
        with self.assertRaises(TooMany):
            verdict(played(first(right_by_two(), 1), []), most=73)

    def test_nothing_changes(self):
        bag = (START, (NO,))
        moment = first(example(), 2)
        bag_verdict(example(), bag)
        verdict(moment)
        self.assertEqual(bag, (START, (NO,)))
        self.assertEqual(moment, first(example(), 2))


if __name__ == "__main__":
    unittest.main()
