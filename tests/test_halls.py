"""Points [30] and [31]: real values and many lines, and logs."""

import unittest

from copybooks.errors import NoBack, NoLine, NoLines, NoMany, NoStep, NoValue
from copybooks.halls import Hall, log_fault
from copybooks.moments import Moment, first, played
from copybooks.searches import shortest
from tests.naive_values import Line
from tests.samples import (
    Chance, chance_book, example, example_parts, full_parts, made, near_book, nested, odd_values, putting, shared_parts,
)
from tests.test_moments import no_steps, steps_of_no_moment
from tests.test_searches import NO_MANY
from tests.test_steps import kit

NO_LINES = [0, 5, -1, True, False, None, "1", [1], (1,), 10 ** 30, {}, nested(1, 30), example()]

OWNED = [("wish", 0, 0), ("take", 0, "want"), ("end",), ("answer", 0, "give")]

HANDED = [("wish", 1, 0), ("take", 1, "want"), ("answer", 0, "yield"), ("take", 0, "hand"), ("end",), ("answer", 1, "give")]


def stepped(hall, line, run):
    for step in run:
        hall.step(line, step)
    return hall


class TestValues(unittest.TestCase):

    def test_the_first_value_is_zero(self):
        hall = stepped(Hall(example(), 2, 1), 0, OWNED)
        self.assertEqual(hall.read(0, 0), 0)
        self.assertEqual(hall.log(), [("read", 0, 0, 0)])

    def test_a_put_is_read(self):
        hall = stepped(Hall(example(), 1, 1), 0, OWNED)
        for value in (5, -5, 0, 10 ** 400, -(10 ** 50), 1):
            self.assertIsNone(hall.put(0, 0, value))
            self.assertEqual(hall.read(0, 0), value)

    def test_handed_on(self):
        hall = stepped(Hall(example(), 2, 1), 0, OWNED)
        hall.put(0, 0, 77)
        stepped(hall, 0, HANDED)
        self.assertEqual(hall.read(0, 1), 77)
        hall.put(0, 1, 78)
        self.assertEqual(hall.read(0, 1), 78)
        self.assertEqual(hall.log(), [("put", 0, 0, 77), ("read", 0, 1, 77), ("put", 0, 1, 78), ("read", 0, 1, 78)])
        self.assertEqual(len(hall), len(OWNED) + len(HANDED) + 4)

    def test_lines_are_apart(self):
        hall = Hall(example(), 2, 4)
        for line in range(4):
            stepped(hall, line, OWNED[:line + 1])
        self.assertEqual(hall.moment(3), played(first(example(), 2), OWNED))
        self.assertEqual(hall.moment(0), played(first(example(), 2), OWNED[:1]))
        stepped(hall, 2, OWNED[3:])
        hall.put(3, 0, 30)
        hall.put(2, 0, 20)
        self.assertEqual((hall.read(2, 0), hall.read(3, 0)), (20, 30))
        self.assertEqual(hall.moment(3).home()[1], "elder")
        self.assertEqual(hall.moment(0).home()[1], "last")
        stepped(hall, 3, HANDED)
        self.assertEqual(hall.read(3, 1), 30)
        self.assertEqual([row[1] for row in hall.log()], [3, 2, 2, 3, 3])

    def test_other_values_stay_with_a_put(self):
        # What the other cache holds is an elder put now, and has its value as before.
        book = kit(states=[("no", ""), ("own", "hrp")], wishes=[("no", "own", None), ("own", "own", "hand")],
                   idles=[("out", "hand", "out", "give", False)], answers=[("own", "give", "own", None)])
        hall = stepped(Hall(book, 2, 1), 0, [("wish", 0, 0), ("wish", 1, 0)])
        hall.put(0, 0, 1)
        hall.put(0, 1, 2)
        self.assertEqual((hall.read(0, 0), hall.read(0, 1)), (1, 2))
        self.assertEqual(hall.moment(0).caches()[0][1], "elder")
        # The letter keeps the value that it was sent with, and home, to whom cache 0 is no owner, drops it.
        hall.step(0, ("wish", 0, 1))
        hall.put(0, 0, 3)
        hall.step(0, ("take", 0, "hand"))
        hall.step(0, ("answer", 0, "give"))
        self.assertEqual(hall.read(0, 0), 0)

    def test_letters_keep_the_values_that_they_were_sent_with(self):
        # The owner hands in what it has, and puts while the letter is under way; then home sends it back.
        parts = example_parts()
        book = made({**parts, "wishes": parts["wishes"] + [("own", "own", "hand")],
                     "idles": parts["idles"] + [("boss", "hand", "boss", "give", False)],
                     "answers": parts["answers"] + [("own", "give", "own", None)]})
        hall = stepped(Hall(book, 2, 1), 0, OWNED)
        hall.put(0, 0, 11)
        hall.step(0, ("wish", 0, 1))
        hall.put(0, 0, 12)
        hall.step(0, ("take", 0, "hand"))
        hall.put(0, 0, 13)
        self.assertEqual(hall.read(0, 0), 13)
        hall.step(0, ("answer", 0, "give"))
        self.assertEqual(hall.read(0, 0), 11)
        self.assertEqual(hall.moment(0).caches()[0][1], "elder")
        self.assertEqual(log_fault(hall.log()), ("read", 4))

    def test_home_takes_data_from_the_owner_alone(self):
        hall = stepped(Hall(example(), 3, 1), 0, OWNED)
        hall.put(0, 0, 9)
        stepped(hall, 0, [("wish", 2, 0), ("take", 2, "want"), ("answer", 0, "yield")])
        self.assertEqual(hall.moment(0).caches()[0][3], (("hand", "last"),))
        stepped(hall, 0, [("take", 0, "hand"), ("end",), ("answer", 2, "give")])
        self.assertEqual(hall.read(0, 2), 9)

    def test_a_copy_that_has_no_value(self):
        book = kit(wishes=[("no", "has", None), ("no", "own", None), ("own", "no", None), ("own", "keep", None),
                           ("keep", "own", None), ("has", "own", "hand")],
                   idles=[("out", "hand", "out", "give", False)], answers=[("own", "give", "own", None)])
        hall = stepped(Hall(book, 1, 1), 0, [("wish", 0, 0)])
        self.assertIsNone(hall.read(0, 0))
        self.assertEqual(hall.log(), [("read", 0, 0, None)])
        hall = stepped(Hall(book, 1, 1), 0, [("wish", 0, 1)])
        hall.put(0, 0, 4)
        # Through a state that holds the value stays; one that does not hold loses it.
        stepped(hall, 0, [("wish", 0, 3), ("wish", 0, 4)])
        self.assertEqual(hall.read(0, 0), 4)
        stepped(hall, 0, [("wish", 0, 2), ("wish", 0, 1)])
        self.assertIsNone(hall.read(0, 0))

    def test_letters_that_bear_no_value(self):
        # The cache sends what it does not have, and gets it back as its copy.
        book = kit(downs=[("give", True), ("tell", False)], wishes=[("no", "own", None), ("own", "own", "hand")],
                   idles=[("out", "hand", "boss", None, False)], answers=[("own", "give", "own", None)],
                   tasks=[("take", [("out", None), ("has", None), ("boss", None)], ["out"], ["out"] * 3, "out", "give", "asker")])
        hall = stepped(Hall(book, 1, 1), 0, [("wish", 0, 0), ("wish", 0, 1)])
        self.assertEqual(hall.moment(0).caches()[0][3], (("hand", "none"),))
        hall.put(0, 0, 6)
        hall.step(0, ("take", 0, "hand"))
        self.assertEqual(hall.read(0, 0), 6)

    def test_the_owner_hands_in_no_value(self):
        # Behind that home has none itself, and what it gives bears none.
        book = example(answers=[("ask", "give", "own", None), ("ask", "yield", "no", "hand"), ("own", "yield", "no", "hand")])
        run = OWNED[:3] + [("wish", 1, 0), ("take", 1, "want"), ("answer", 0, "yield"), ("take", 0, "hand"), ("end",),
                           ("answer", 1, "give")]
        hall = stepped(Hall(book, 2, 1), 0, run)
        self.assertEqual(hall.moment(0).home()[1], "none")
        self.assertIsNone(hall.read(0, 1))

    def test_like_the_plain_writing(self):
        books = [chance_book(seed) for seed in range(60)] + [
            near_book(seed, parts) for seed in range(20) for parts in (example_parts(), shared_parts())] + [
            example(), made(shared_parts()), made(full_parts())] * 6
        self.done = {"put": 0, "read": 0, "none": 0, "back": 0}
        for seed, book in enumerate(books):
            self.walk(book, Chance(seed))
        self.assertTrue(all(count > 60 for count in self.done.values()), self.done)

    def walk(self, book, chance):
        """Leads a hall and plain lines alike by chance, and compares all that they tell."""
        n, lines = 1 + chance.below(4), 1 + chance.below(4)
        hall, plain, log = Hall(book, n, lines), [Line(book, n) for _ in range(lines)], []
        traits = dict(book.states())
        for value in range(45):
            line, i = chance.below(lines), chance.below(n)
            state = plain[line].told()[1][i][0]
            steps = [step for step in hall.moment(line).steps() if step[0] != "put"]
            if "p" in traits[state] and chance.flag():
                hall.put(line, i, value)
                plain[line].put(i, value)
                log.append(("put", line, i, value))
                self.done["put"] += 1
            elif "r" in traits[state] and chance.flag():
                found = plain[line].held()[i]
                self.assertEqual(hall.read(line, i), found)
                log.append(("read", line, i, found))
                self.done["none" if found is None else "read"] += 1
            elif steps:
                step = chance.one_of(steps)
                hall.step(line, step)
                if chance.below(6) == 0:
                    hall.back()
                    self.done["back"] += 1
                    hall.step(line, step)
                plain[line].step(step)
            self.assertEqual((hall.moment(line).home(), hall.moment(line).caches()), plain[line].told())
        self.assertEqual(hall.log(), log)


class TestHall(unittest.TestCase):

    def test_moments(self):
        for n in range(1, 7):
            for lines in range(1, 5):
                hall = Hall(example(), n, lines)
                for line in range(lines):
                    self.assertIsInstance(hall.moment(line), Moment)
                    self.assertEqual(hall.moment(line), first(example(), n))
                self.assertEqual((len(hall), hall.log()), (0, []))

    def test_puts_are_steps_of_the_moment(self):
        hall = stepped(Hall(example(), 2, 2), 1, OWNED)
        hall.put(1, 0, 8)
        hall.read(1, 0)
        self.assertEqual(hall.moment(1), played(first(example(), 2), OWNED + [("put", 0)]))
        self.assertEqual(hall.moment(0), first(example(), 2))

    def test_steps_return_none(self):
        hall = Hall(example(), 2, 1)
        for step in OWNED + HANDED:
            self.assertIsNone(hall.step(0, step))

    def test_back(self):
        hall = Hall(example(), 2, 2)
        told = []
        deeds = [(hall.step, 1, step) for step in OWNED] + [
            (hall.put, 1, 0, 5), (hall.read, 1, 0), (hall.step, 0, OWNED[0]), (hall.put, 1, 0, 6), (hall.read, 1, 0),
            (hall.step, 1, HANDED[0]), (hall.step, 1, HANDED[1]), (hall.step, 1, HANDED[2])]
        for deed, *given in deeds:
            told.append((hall.moment(0), hall.moment(1), hall.log(), len(hall)))
            deed(*given)
        self.assertEqual(len(hall), 12)
        self.assertEqual(hall.log(), [("put", 1, 0, 5), ("read", 1, 0, 5), ("put", 1, 0, 6), ("read", 1, 0, 6)])
        for before in told[::-1]:
            self.assertIsNone(hall.back())
            self.assertEqual((hall.moment(0), hall.moment(1), hall.log(), len(hall)), before)
        for _ in range(2):
            with self.assertRaises(NoBack):
                hall.back()
        self.assertEqual((len(hall), hall.log(), hall.moment(1)), (0, [], first(example(), 2)))

    def test_back_brings_values_back(self):
        hall = stepped(Hall(example(), 2, 1), 0, OWNED)
        hall.put(0, 0, 5)
        hall.put(0, 0, 6)
        hall.back()
        self.assertEqual(hall.read(0, 0), 5)
        stepped(hall, 0, HANDED)
        for _ in range(len(HANDED) + 1):
            hall.back()
        self.assertEqual(hall.read(0, 0), 5)
        hall.back()
        hall.back()
        self.assertEqual(hall.log(), [])
        self.assertEqual(hall.read(0, 0), 0)
        hall.back()
        hall.back()
        with self.assertRaises(NoStep):
            hall.read(0, 0)

    def test_a_refused_call_changes_nothing(self):
        hall = stepped(Hall(example(), 2, 2), 0, OWNED)
        hall.put(0, 0, 5)
        before = (hall.moment(0), hall.moment(1), hall.log(), len(hall))
        for error, deed in [
                (NoLine, lambda: hall.step(2, ("wish", 1, 0))), (NoStep, lambda: hall.step(0, ("put", 0))),
                (NoStep, lambda: hall.step(0, ("end",))), (NoStep, lambda: hall.put(0, 1, 5)),
                (NoValue, lambda: hall.put(0, 0, None)), (NoStep, lambda: hall.read(0, 1)), (NoStep, lambda: hall.read(1, 0)),
                (NoLine, lambda: hall.moment(2)), (NoLine, lambda: hall.read(-1, 0))]:
            with self.assertRaises(error):
                deed()
            self.assertEqual((hall.moment(0), hall.moment(1), hall.log(), len(hall)), before)

    def test_the_log_is_a_copy(self):
        hall = stepped(Hall(example(), 2, 1), 0, OWNED)
        hall.put(0, 0, 5)
        hall.log().clear()
        self.assertEqual(hall.log(), [("put", 0, 0, 5)])

    def test_a_long_life(self):
        hall = Hall(putting(), 2, 1)
        for value in range(400):
            hall.step(0, ("wish", value % 2, 0))
            hall.put(0, value % 2, value)
            hall.step(0, ("wish", value % 2, 1))
        self.assertEqual(len(hall), 1200)
        self.assertEqual(hall.log(), [("put", 0, value % 2, value) for value in range(400)])
        for _ in range(1200):
            hall.back()
        self.assertEqual(hall.moment(0), first(putting(), 2))


class TestArguments(unittest.TestCase):

    def test_numbers(self):
        for n in NO_MANY:
            for lines in (1, 0, None):
                with self.assertRaises(NoMany):
                    Hall(example(), n, lines)
        for lines in NO_LINES:
            with self.assertRaises(NoLines):
                Hall(example(), 2, lines)

    def test_lines(self):
        hall = stepped(Hall(example(), 2, 3), 0, OWNED)
        for line in [3, 4, -1, True, False, None, "0", [0], (0,), {}, 10 ** 30, nested(0, 30), example(), hall]:
            for deed in (lambda: hall.step(line, None), lambda: hall.step(line, ("wish", 1, 0)),
                         lambda: hall.put(line, 0, 5), lambda: hall.put(line, None, None), lambda: hall.read(line, 0),
                         lambda: hall.read(line, 9), lambda: hall.moment(line)):
                with self.assertRaises(NoLine):
                    deed()

    def test_steps(self):
        hall = stepped(Hall(example(), 2, 1), 0, OWNED)
        for step in no_steps() + steps_of_no_moment() + [("put", 0), ("put", 1), ("end",), ("wish", 0, 0)]:
            with self.assertRaises(NoStep):
                hall.step(0, step)

    def test_steps_that_would_jam(self):
        book = kit(wishes=[("no", "no", "want")])
        hall = stepped(Hall(book, 1, 1), 0, [("wish", 0, 0)])
        self.assertEqual(hall.moment(0).wrongs(), [("jam", ("wish", 0, 0))])
        with self.assertRaises(NoStep):
            hall.step(0, ("wish", 0, 0))
        self.assertEqual(len(hall), 1)

    def test_caches(self):
        hall = stepped(Hall(example(), 2, 1), 0, OWNED)
        for i in [1, 2, 6, -1, True, False, None, "0", [0], (0,), {}, 10 ** 30, nested(0, 30), example()]:
            for value in (5, None):
                with self.assertRaises(NoStep):
                    hall.put(0, i, value)
            with self.assertRaises(NoStep):
                hall.read(0, i)

    def test_no_index_from_the_end(self):
        # The last cache may put and read, but -1 is not its index.
        hall = stepped(Hall(example(), 1, 1), 0, OWNED)
        for i in (-1, 1, False):
            with self.assertRaises(NoStep):
                hall.put(0, i, 5)
            with self.assertRaises(NoStep):
                hall.read(0, i)
        hall.put(0, 0, 5)
        self.assertEqual(hall.log(), [("put", 0, 0, 5)])

    def test_who_may_read_may_not_always_put(self):
        book = kit(states=[("no", ""), ("has", "hr"), ("lay", "hp")], wishes=[("no", "has", None), ("no", "lay", None)])
        hall = stepped(Hall(book, 2, 1), 0, [("wish", 0, 0), ("wish", 1, 1)])
        hall.put(0, 1, 5)
        self.assertIsNone(hall.read(0, 0))
        with self.assertRaises(NoStep):
            hall.put(0, 0, 5)
        with self.assertRaises(NoStep):
            hall.read(0, 1)
        self.assertEqual(hall.log(), [("put", 0, 1, 5), ("read", 0, 0, None)])

    def test_values(self):
        hall = stepped(Hall(example(), 2, 1), 0, OWNED)
        for value in odd_values() + [True, False, "5", (5,), hall]:
            if not isinstance(value, int) or isinstance(value, bool):
                with self.assertRaises(NoValue):
                    hall.put(0, 0, value)
        self.assertEqual(hall.log(), [])


class TestLogs(unittest.TestCase):

    def test_the_example(self):
        self.assertEqual(log_fault([("put", 0, 0, 5), ("read", 0, 1, 4)]), ("read", 1))

    def test_without_fault(self):
        for thing in [
                [], [("read", 0, 0, 0)], [("put", 0, 0, 5)], [("put", 0, 0, 5), ("read", 0, 1, 5)],
                [("put", 0, 0, 5), ("read", 1, 0, 0), ("read", 0, 3, 5)],
                [("put", 3, 0, 5), ("put", 3, 1, 6), ("read", 3, 0, 6), ("put", 2, 0, 7), ("read", 3, 9, 6), ("read", 2, 0, 7)],
                [("put", 10 ** 30, 10 ** 40, -(10 ** 50)), ("read", 10 ** 30, 0, -(10 ** 50))], [("put", 0, 0, 0)] * 200]:
            self.assertIsNone(log_fault(thing))

    def test_reads(self):
        for thing, index in [
                ([("read", 0, 0, None)], 0), ([("read", 0, 0, 1)], 0), ([("put", 0, 0, 5), ("read", 0, 0, None)], 1),
                ([("put", 0, 0, 5), ("read", 0, 0, 0)], 1), ([("put", 0, 0, 5), ("put", 0, 1, 6), ("read", 0, 0, 5)], 2),
                ([("put", 0, 0, 5), ("read", 1, 0, 5)], 1), ([("read", 0, 0, 5), ("put", 0, 0, 5), ("read", 0, 0, 6)], 0),
                ([("put", 0, 0, 5), ("read", 0, 0, 5), ("read", 0, 0, 4), ("read", 0, 0, 3)], 2),
                ([("put", 0, 0, 5), ("put", 1, 0, 6), ("read", 1, 0, 6), ("read", 0, 0, 6)], 3),
                ([("read", 7, 7, 0), ("read", 7, 7, -1)], 1)]:
            self.assertEqual(log_fault(thing), ("read", index))

    def test_form(self):
        good = ("put", 0, 0, 5)
        for value in odd_values() + [(good,), {0: good}, good]:
            if value != []:
                self.assertEqual(log_fault(value), ("form",))
        for row in odd_values() + [
                ["put", 0, 0, 5], ("put", 0, 0), ("put", 0, 0, 5, 5), ("puts", 0, 0, 5), ("write", 0, 0, 5), (None, 0, 0, 5),
                ("put", -1, 0, 5), ("put", 0, -1, 5), ("put", True, 0, 5), ("put", 0, True, 5), ("put", 0, 0, True),
                ("put", 0, 0, None), ("put", 0, 0, "5"), ("put", None, 0, 5), ("put", 0, None, 5), ("put", 0, 0, [5]),
                ("read", 0, 0, True), ("read", 0, 0, False), ("read", 0, 0, "0"), ("read", 0, -1, None), ("read", False, 0, 0),
                ("read", 0, 0), ("read", 0, 0, [None]), (["put"], 0, 0, 5), ({}, 0, 0, 5), nested(good, 26),
                (example(), 0, 0, 5), ("put", 0, 0, example()), ("end",)]:
            # The form goes ahead of any read that does not tell the last put.
            for thing in ([row], [good, row], [row, good], [("read", 0, 0, 9), row], [row, ("read", 0, 0, 9)]):
                self.assertEqual(log_fault(thing), ("form",))

    def test_nothing_changes(self):
        thing = [("put", 0, 0, 5), ("read", 0, 1, 4)]
        log_fault(thing)
        self.assertEqual(thing, [("put", 0, 0, 5), ("read", 0, 1, 4)])

    def test_logs_of_halls(self):
        # A run to something stale, with ever new values, has a fault as soon as that cache reads; other runs have none.
        stale = 0
        for seed in range(60):
            for book in (chance_book(seed), near_book(seed, example_parts()), near_book(seed, shared_parts())):
                for n in (1, 2):
                    run = shortest(book, n, kinds=("stale",), most=20000) if n == 1 else None
                    if run is not None:
                        stale += self.read_at_the_end(book, n, run)
        self.assertGreater(stale, 30)

    def read_at_the_end(self, book, n, run):
        hall = Hall(book, n, 1)
        for value, step in enumerate(run, 1):
            self.assertIsNone(log_fault(hall.log()))
            if step[0] == "put":
                hall.put(0, step[1], value)
            else:
                hall.step(0, step)
        i = [wrong[1] for wrong in hall.moment(0).wrongs() if wrong[0] == "stale"][0]
        hall.read(0, i)
        self.assertEqual(log_fault(hall.log()), ("read", len(hall.log()) - 1))
        return 1

    def test_right_books_have_no_faults(self):
        for seed, book in enumerate([example(), made(shared_parts())] * 15):
            chance = Chance(seed)
            hall = Hall(book, 3, 2)
            traits = dict(book.states())
            for value in range(1, 120):
                line = chance.below(2)
                step = chance.one_of(hall.moment(line).steps() or [None])
                if step is None:
                    continue
                if step[0] == "put":
                    hall.put(line, step[1], value)
                else:
                    hall.step(line, step)
                for i, local in enumerate(hall.moment(line).caches()):
                    if "r" in traits[local[0]]:
                        hall.read(line, i)
            self.assertIsNone(log_fault(hall.log()))
            self.assertTrue(hall.log())


if __name__ == "__main__":
    unittest.main()
