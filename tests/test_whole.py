"""What the document promises over the whole program: the same book through all modules."""

import unittest
from copy import deepcopy

from copybooks.basejudge import base_fault, harm
from copybooks.bases import base, cutoff, family_cutoff, greatest, verdict
from copybooks.deciding import decide
from copybooks.errors import CopyError, TooMany
from copybooks.families import Family, least_mends, mends_fault, mends_paper, sort_family
from copybooks.halls import Hall, log_fault
from copybooks.live import Live
from copybooks.moments import first, played
from copybooks.resting import can_rest, restless, rests
from copybooks.runtexts import read_run, run_text
from copybooks.searches import fewest, reached, run_fault, shortest
from copybooks.tables import beside, beside_fault, beside_run, needless, used
from copybooks.texts import book_text, read_book
from copybooks.viewjudge import closed_fault
from copybooks.views import views
from tests.samples import (
    Chance, called_twice, chance_book, example, example_parts, made, near_book, nested, odd_values, renamed_parts,
    right_by_three, right_by_two, shared_parts, told_by_calls, wrong_by_four,
)
from tests.test_bases import parts_of
from tests.test_tables import loose_parts
from tests.test_views_chance import shuffled


def told(ask, *given, **bounds):
    """What a call returns, or the error that it raises with its fields."""
    try:
        return ask(*given, **bounds)
    except CopyError as error:
        return (type(error).__name__, vars(error))


def size(found):
    """The length of a list; anything else stays as it is."""
    return len(found) if isinstance(found, list) else found


def numbers(book):
    """All that is told of a book by words and numbers alone, whatever its names and the orders of its parts."""
    found = {"reached": [told(reached, book, n, most=400) for n in (1, 2, 3)]}
    for kinds in (("stale",), ("jam",), ("deaf",), ("stale", "jam", "deaf")):
        found["shortest", kinds] = size(told(shortest, book, 2, kinds=kinds, most=400))
    run = told(fewest, book, most=400)
    found["fewest"] = run and (run[0], size(run[1]))
    for k in (1, 2):
        rows = told(views, book, k, most=150)
        found["views", k] = (rows[0], size(rows[1])) if rows[0] == "closed" else rows[:1]
    found["decide"] = told(decide, book, most=150)[:2]
    found["bases"] = [told(ask, book, most=300) for ask in (cutoff, greatest)]
    found["base"] = size(told(base, book, most=300))
    found["verdicts"] = [told(verdict, first(book, n), most=300) for n in (1, 2, 3)]
    run = told(restless, book, 2, most=400)
    found["restless"] = run and size(run[0])
    found["rests"] = told(rests, book, most=150)[:1]
    for ask in (beside, needless, used):
        found[ask.__name__] = size(told(ask, book, most=150))
    return found


def reordered(parts, chance):
    """The parts of the same book with its parts in other orders."""
    marks = parts["marks"][:1] + shuffled(chance, parts["marks"][1:])
    places = [parts["marks"].index(mark) for mark in marks]
    tasks = [(name, [calls[at] for at in places], shuffled(chance, quiet), [ends[at] for at in places], mark, down, owner)
             for name, calls, quiet, ends, mark, down, owner in shuffled(chance, parts["tasks"])]
    found = {part: shuffled(chance, rows) for part, rows in parts.items()}
    return {**found, "states": parts["states"][:1] + shuffled(chance, parts["states"][1:]), "marks": marks, "tasks": tasks}


BOOKS = [
    example(), made(shared_parts()), made(loose_parts()), called_twice(), right_by_two(), right_by_three(), wrong_by_four(),
    told_by_calls(), near_book(2, shared_parts()), near_book(25, shared_parts()), near_book(4, example_parts())]


class TestTheSameBook(unittest.TestCase):

    def test_written_and_read_again(self):
        for book in BOOKS + [chance_book(seed) for seed in range(12)]:
            other = read_book(book_text(book))
            self.assertEqual(numbers(other), numbers(book))
            self.assertEqual(first(other, 2), first(book, 2))
            self.assertEqual(told(decide, other, most=150), told(decide, book, most=150))
            self.assertEqual(told(base, other, most=300), told(base, book, most=300))

    def test_other_names(self):
        for book in BOOKS + [chance_book(seed) for seed in range(20)]:
            self.assertEqual(numbers(made(renamed_parts(parts_of(book)))), numbers(book))

    def test_other_orders(self):
        chance = Chance(90)
        for book in BOOKS + [chance_book(seed) for seed in range(20)]:
            for _ in range(2):
                self.assertEqual(numbers(made(reordered(parts_of(book), chance))), numbers(book))

    def test_families_with_other_names(self):
        slip = ("own", "yield", "own", "hand")
        names = {name: "q" + name[:6] for name in ["no", "ask", "own", "want", "hand", "give", "yield", "out", "boss", "take"]}
        other = tuple(names.get(name, name) for name in slip)
        one = Family(example(), [("answers", 1, [slip, None]), ("wishes", 0, [None])])
        two = Family(made(renamed_parts(example_parts(), names)), [("answers", 1, [other, None]), ("wishes", 0, [None])])
        self.assertEqual(sort_family(one), sort_family(two))
        self.assertEqual(least_mends(one), least_mends(two))
        self.assertEqual(family_cutoff(one), family_cutoff(two))


class TestJudges(unittest.TestCase):

    def test_what_is_returned_is_judged_without_fault(self):
        met = set()
        for book in BOOKS + [chance_book(seed) for seed in range(30)] + [near_book(seed, shared_parts()) for seed in range(12)]:
            found = told(decide, book, most=400)
            met.add(found[0])
            if found[0] == "right":
                self.assertIsNone(closed_fault(book, found[1], found[2]))
            if found[0] == "wrong":
                self.assertIsNone(run_fault(book, found[1], found[2]))
            bags = told(base, book, most=60)
            if isinstance(bags, list):
                runs = [harm(book, bag, most=20000) for bag in bags]
                self.assertIsNone(base_fault(book, bags, runs, most=20000))
            names = [name for name, _ in book.states()]
            for pair in [(names[0], names[0]), (names[0], names[1]), (names[-1], names[-1])]:
                found = told(beside_run, book, pair, caches=2, most=150)
                if found is not None and found[0] == 2:
                    self.assertIsNone(beside_fault(book, pair, 2, found[1]))
        self.assertLessEqual({"right", "wrong", "Undecided"}, met)

    def test_cutoffs_and_decisions(self):
        for book in BOOKS:
            found, n = told(decide, book), cutoff(book)
            if found[0] == "right":
                self.assertIsNone(n)
                self.assertEqual(verdict(first(book, 6)), "harmless")
            else:
                self.assertIsNotNone(shortest(book, n, most=20000))
                self.assertEqual([verdict(first(book, many)) for many in range(1, 7)],
                                 ["harmless"] * (n - 1) + ["harmful"] * (7 - n))

    def test_right_and_restful_books_are_so_in_every_moment(self):
        for book in BOOKS:
            if told(rests, book) != ("rests",):
                continue
            chance, live = Chance(4), Live(book, 4)
            for _ in range(60):
                steps = live.moment().steps()
                if not steps:
                    break
                live.step(chance.one_of(steps))
                self.assertEqual(live.wrongs(), [])
                for i in range(4):
                    self.assertIsNotNone(can_rest(live.moment(), i, most=20000))


class TestWorlds(unittest.TestCase):

    def test_a_world_led_by_each_class(self):
        for seed, book in enumerate(BOOKS + [chance_book(seed) for seed in range(30)]):
            chance, n = Chance(seed), 1 + seed % 4
            live, hall, moment, run = Live(book, n), Hall(book, n, 2), first(book, n), []
            for value in range(30):
                steps = moment.steps()
                if not steps:
                    break
                step = chance.one_of(steps)
                run.append(step)
                moment = moment.after(step)
                live.step(step)
                if step[0] == "put":
                    hall.put(1, step[1], value)
                else:
                    hall.step(1, step)
                self.assertEqual(live.moment(), moment)
                self.assertEqual(hall.moment(1), moment)
            self.assertEqual(list(live), run)
            self.assertEqual(played(first(book, n), read_run(run_text(list(live)))), moment)
            self.assertEqual(live.wrongs(), moment.wrongs())
            self.assertEqual((len(hall), len(live)), (len(run), len(run)))
            for _ in run[len(run) // 2:]:
                live.back()
                hall.back()
            self.assertEqual(live.moment(), played(first(book, n), run[:len(run) // 2]))
            self.assertEqual(hall.moment(1), live.moment())
            self.assertEqual(hall.moment(0), first(book, n))

    def test_runs_as_texts_through_all_that_judges_them(self):
        book = near_book(2, shared_parts())
        n, run = fewest(book)
        again = read_run(run_text(run))
        self.assertIsNone(run_fault(read_book(book_text(book)), n, again))
        live = Live(book, n)
        for step in again:
            live.step(step)
        self.assertTrue(live.wrongs())

    def test_values_tell_what_data_tell(self):
        # A copy is the last put exactly if it has the value of the last put, where all puts have other values.
        for seed, book in enumerate(BOOKS + [chance_book(seed) for seed in range(40)]):
            chance, hall, last = Chance(seed), Hall(book, 2, 1), 0
            traits = dict(book.states())
            for value in range(1, 30):
                steps = hall.moment(0).steps()
                if not steps:
                    break
                step = chance.one_of(steps)
                if step[0] == "put":
                    hall.put(0, step[1], value)
                    last = value
                else:
                    hall.step(0, step)
                for i, local in enumerate(hall.moment(0).caches()):
                    if "r" in traits[local[0]]:
                        found = hall.read(0, i)
                        self.assertEqual(found == last, local[1] == "last")
                        self.assertEqual(found is None, local[1] == "none")
                        self.assertEqual(log_fault(hall.log()) is None, self.is_true(hall.log()))
                        hall.back()

    def is_true(self, log):
        """Whether each read of the log, of one line, tells the last put."""
        last = 0
        for word, _, _, value in log:
            if word == "read" and value != last:
                return False
            last = value
        return True


class TestArguments(unittest.TestCase):

    def test_nothing_that_is_handed_in_changes(self):
        book = near_book(2, shared_parts())
        parts = parts_of(book)
        n, run = fewest(book)
        bags = base(book)
        runs = [harm(book, bag) for bag in bags]
        family = Family(book, [("answers", 0, [None])])
        thing, papers = mends_paper(family)
        given = [run, bags, runs, thing, papers]
        kept = deepcopy(given)
        run_fault(book, n, run)
        base_fault(book, bags, runs)
        closed_fault(book, 1, bags)
        mends_fault(family, thing, papers)
        beside_fault(book, ("no", "no"), 2, run)
        log_fault(run)
        told(run_text, run + [None])
        self.assertEqual(given, kept)
        self.assertEqual(parts_of(book), parts)

    def test_things_of_every_sort(self):
        things = odd_values() + [
            nested(("end",), 30), nested({"a": [1]}, 29), [nested([], 29)], {"a": nested({}, 28)}, first(example(), 2),
            Family(example(), [("wishes", 0, [None])]), Hall(example(), 1, 1), Live(example(), 1), [Live(example(), 1)],
            (Hall(example(), 1, 1),), [first(example(), 1)] * 3, {1: 2, None: (), "a": [], (1, 2): {}}]
        family = Family(example(), [("wishes", 0, [None])])
        for thing in things:
            self.assertIn(told(run_fault, example(), 1, thing)[0], ("form", "step", "good"))
            if thing != []:
                self.assertEqual(closed_fault(example(), 1, thing), ("form",))
                self.assertEqual(base_fault(example(), thing, []), ("form",))
                self.assertEqual(base_fault(example(), [], thing), ("form",))
                self.assertEqual(mends_fault(family, thing, {}), ("form",))
                self.assertEqual(log_fault(thing), ("form",))
            self.assertIn(beside_fault(example(), ("no", "own"), 2, thing)[0], ("form", "step", "apart"))
            if not isinstance(thing, str):
                self.assertEqual(told(read_book, thing), ("NoText", {"line": -1}))
                self.assertEqual(told(read_run, thing), ("NoText", {"line": -1}))
            if not isinstance(thing, list):
                self.assertEqual(told(run_text, thing), ("NoRun", {"index": -1}))
            self.assertEqual(told(Family, example(), [thing]), ("NoFamily", {"index": 0}))
            if thing not in (1,) or thing is True:
                self.assertEqual(told(Hall, example(), thing, 1), ("NoMany", {}))
                self.assertEqual(told(Live, example(), thing), ("NoMany", {}))
                self.assertEqual(told(rests, example(), caches=thing), ("NoMany", {}))
                self.assertEqual(told(cutoff, example(), most=thing) if thing != 7 else ("NoMost", {}), ("NoMost", {}))
            if thing != (1,):
                self.assertIs(thing in family, False)

    def test_errors_keep_their_fields(self):
        with self.assertRaises(TooMany) as caught:
            base(wrong_by_four(), most=81)
        self.assertEqual(caught.exception.most, 81)


if __name__ == "__main__":
    unittest.main()
