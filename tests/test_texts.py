"""Point [35]: books as texts."""

import unittest

from copybooks.books import Book
from copybooks.deciding import decide
from copybooks.errors import CopyError, NoBook, NoText
from copybooks.texts import book_text, read_book
from tests.naive_texts import wrong_line
from tests.samples import (
    Chance, both_become_others, called_twice, chance_book, example, example_parts, full_parts, made, near_book, odd_values,
    putting, renamed_parts, right_by_three, right_by_two, shared_parts, small, told_by_calls, wrong_by_five, wrong_by_four,
)
from tests.test_bases import parts_of
from tests.test_steps import kit

EXAMPLE = """state no -
state ask w
state own hrp
up want no
up hand yes
down give yes
down yield no
mark out
mark boss
wish no ask want
answer ask give own -
answer own yield no hand
task take boss give asker
  call out out -
  call boss boss yield
  end out out
  end boss boss
  quiet out
begin out want take
busy take boss hand out - yes"""

FULL = """state no -
state ask w
state has hr
state own hrp
state odd hw
state out w
up want no
up hand yes
up drop yes
down give yes
down yield no
down want no
mark out
mark has
mark boss
wish no ask want
wish has no -
wish own no hand
wish no ask want
answer ask give own -
answer own yield no hand
answer has yield no want
task take boss give asker
  call out out -
  call has has yield
  call boss boss yield
  end out out
  end has has
  end boss out
  quiet out has
task look has - stays
  call out has want
  call has has -
  call boss boss give
  end out boss
  end has out
  end boss has
  quiet out has boss
task give out yield none
  call out out -
  call has out -
  call boss out give
  end out out
  end has has
  end boss boss
  quiet boss
begin out want take
note has drop out - no
note boss hand out give yes
begin out hand look
busy take boss hand out - yes
busy take has want out yield no
busy look boss hand boss give no"""

SIGNS = " abz-_`{AZ09\n~!.\"\\%"


class TextCase(unittest.TestCase):

    def wrong(self, text, line):
        with self.assertRaises(NoText) as caught:
            read_book(text)
        self.assertEqual(caught.exception.line, line)

    def compare(self, text):
        """Compares what is told of a text with its forms written a second time; returns the kind of what is told."""
        line = wrong_line(text)
        if line is not None:
            self.wrong(text, line)
            return "text"
        try:
            book = read_book(text)
        except NoBook:
            return "book"
        self.assertEqual(book_text(book), text)
        return "good"


class TestBookText(TextCase):

    def test_the_example(self):
        self.assertEqual(book_text(example()), EXAMPLE)

    def test_every_form_of_line(self):
        self.assertEqual(book_text(made(full_parts())), FULL)

    def test_empty_parts(self):
        self.assertEqual(book_text(small()), "\n".join([
            "state no -", "state own hrp", "up want no", "down give yes", "mark out", "task take out - stays",
            "  call out out -", "  end out out", "  quiet out"]))

    def test_one_line_for_each_item(self):
        parts = full_parts()
        lines = book_text(made(parts)).split("\n")
        for head, part in (("state", "states"), ("up", "ups"), ("down", "downs"), ("mark", "marks"), ("wish", "wishes"),
                           ("answer", "answers"), ("task", "tasks"), ("busy", "busies")):
            self.assertEqual(len([line for line in lines if line.split(" ")[0] == head]), len(parts[part]))

    def test_read_again(self):
        books = [example(), small(), kit(), putting(), made(full_parts()), made(shared_parts()), made(renamed_parts(full_parts())),
                 called_twice(), told_by_calls(), both_become_others(), right_by_two(), right_by_three(), wrong_by_four(),
                 wrong_by_five()]
        books += [chance_book(seed) for seed in range(60)] + [near_book(seed, shared_parts()) for seed in range(20)]
        for book in books:
            text = book_text(book)
            self.assertEqual(read_book(text), book)
            self.assertEqual(parts_of(read_book(text)), parts_of(book))
            self.assertEqual(book_text(read_book(text)), text)

    def test_names_that_are_words_of_lines(self):
        names = {"no": "state", "ask": "yes", "own": "no", "want": "up", "hand": "task", "give": "down", "yield": "mark",
                 "out": "call", "boss": "quiet", "take": "begin"}
        book = made(renamed_parts(example_parts(), names))
        text = book_text(book)
        self.assertTrue(text.startswith("state state -\nstate yes w\nstate no hrp\nup up no\nup task yes"))
        self.assertEqual(read_book(text), book)

    def test_a_book_as_great_as_can_be(self):
        names = ["abcdefg" + letter for letter in "abcdefghijklmnopqrstuvwxyz"]
        marks, states, kinds = names[:6], names[:7], names[:5]
        tasks = [(name, [(mark, kinds[0]) for mark in marks], marks, marks, marks[5], kinds[4], "asker") for name in names[:3]]
        book = Book(
            [(states[0], "")] + [(name, "hrpw") for name in states[1:]], [(name, True) for name in kinds],
            [(name, False) for name in kinds], marks, [(states[6], states[5], kinds[4])] * 30,
            [(state, kind, states[6], kinds[4]) for state in states for kind in kinds][:30], tasks,
            [(mark, kind, marks[5], kinds[4], True) for mark in marks for kind in kinds],
            [(names[2], mark, kind, marks[5], None, False) for mark in marks for kind in kinds])
        text = book_text(book)
        self.assertGreater(len(text), 5000)
        self.assertEqual(read_book(text), book)


class TestReadBook(TextCase):

    def test_the_example(self):
        self.assertEqual(read_book(EXAMPLE), example())
        self.assertIs(type(read_book(EXAMPLE)), Book)
        self.assertEqual(decide(read_book(EXAMPLE))[:2], ("right", 1))

    def test_every_form_of_line(self):
        self.assertEqual(read_book(FULL), made(full_parts()))

    def test_no_strings(self):
        for value in odd_values() + [[EXAMPLE], (EXAMPLE,), {EXAMPLE: 1}, example()]:
            if not isinstance(value, str):
                self.wrong(value, -1)

    def test_the_empty_string(self):
        self.wrong("", 0)
        self.wrong("\n", 0)
        self.wrong(" ", 0)

    def test_newlines(self):
        self.wrong(EXAMPLE + "\n", 20)
        self.wrong("\n" + EXAMPLE, 0)
        self.wrong(EXAMPLE.replace("\nup", "\n\nup", 1), 3)
        self.wrong(EXAMPLE.replace("  quiet out\n", "  quiet out\n\n"), 18)
        self.wrong(EXAMPLE.replace("\n  quiet", "\n\n  quiet"), 17)

    def test_each_beginning(self):
        kinds = [self.compare(EXAMPLE[:many]) for many in range(len(EXAMPLE) + 1)]
        self.assertEqual(kinds[-1], "good")
        # It ends behind the book's tasks: all that is behind may lack.
        self.assertGreater(kinds.count("good"), 1)
        self.assertGreater(kinds.count("book"), 10)
        for many in range(0, len(FULL), 3):
            self.compare(FULL[:many])

    def test_each_number_of_lines(self):
        lines = FULL.split("\n")
        for many in range(1, len(lines)):
            text = "\n".join(lines[:many])
            if any(begin < many < begin + 8 for begin in (22, 30, 38)):
                # It ends within a task.
                self.wrong(text, many)
            else:
                self.assertIn(self.compare(text), ("book", "good"))

    def test_each_line_left_out(self):
        for text in (EXAMPLE, FULL):
            lines = text.split("\n")
            kinds = {self.compare("\n".join(lines[:at] + lines[at + 1:])) for at in range(len(lines))}
            self.assertEqual(kinds, {"text", "book", "good"})

    def test_each_line_doubled_or_moved(self):
        lines = FULL.split("\n")
        kinds = set()
        for at in range(len(lines)):
            for place in range(len(lines) + 1):
                kinds.add(self.compare("\n".join(lines[:place] + [lines[at]] + lines[place:])))
        self.assertEqual(kinds, {"text", "book", "good"})

    def test_each_two_lines_exchanged(self):
        lines = EXAMPLE.split("\n")
        for at in range(len(lines)):
            for other in range(at):
                rows = list(lines)
                rows[at], rows[other] = rows[other], rows[at]
                self.compare("\n".join(rows))

    def test_each_sign_changed_left_out_or_put_in(self):
        chance = Chance(35)
        kinds = set()
        for at in range(len(EXAMPLE)):
            for sign in {chance.one_of(SIGNS), chance.one_of(SIGNS), " ", "-"}:
                kinds.add(self.compare(EXAMPLE[:at] + sign + EXAMPLE[at + 1:]))
                kinds.add(self.compare(EXAMPLE[:at] + sign + EXAMPLE[at:]))
            kinds.add(self.compare(EXAMPLE[:at] + EXAMPLE[at + 1:]))
            kinds.add(self.compare(EXAMPLE[:at] + EXAMPLE[at] + EXAMPLE[at:]))
        self.assertEqual(kinds, {"text", "book", "good"})

    def test_each_word_changed_left_out_or_put_in(self):
        words = ["-", "no", "yes", "own", "out", "boss", "take", "asker", "abcdefghi", "", "Out", "o1", "none"]
        for text in (EXAMPLE, FULL):
            lines, kinds = text.split("\n"), set()
            for at, line in enumerate(lines):
                parts = line.split(" ")
                for place in range(len(parts) + 1):
                    rows = [parts[:place] + [word] + parts[place + 1:] for word in words]
                    rows += [parts[:place] + [word] + parts[place:] for word in words]
                    rows += [parts[:place] + parts[place + 1:]]
                    for row in rows:
                        kinds.add(self.compare("\n".join(lines[:at] + [" ".join(row)] + lines[at + 1:])))
            self.assertEqual(kinds, {"text", "book", "good"})

    def test_dashes(self):
        # A dash stands for none only where there may be none.
        for line, good, bad in [
                ("wish no ask want", ["wish no ask -"], ["wish - ask want", "wish no - want"]),
                ("answer own yield no hand", ["answer own yield no -"],
                 ["answer - yield no hand", "answer own - no hand", "answer own yield - hand"]),
                ("task take boss give asker", ["task take boss - asker"],
                 ["task - boss give asker", "task take - give asker", "task take boss give -"]),
                ("  call boss boss yield", ["  call boss boss -"], ["  call - boss yield", "  call boss - yield"]),
                ("  end boss boss", [], ["  end - boss", "  end boss -"]), ("  quiet out", [], ["  quiet -", "  quiet out -"]),
                ("begin out want take", [], ["begin - want take", "begin out - take", "begin out want -"]),
                ("busy take boss hand out - yes", ["busy take boss hand out give yes"],
                 ["busy - boss hand out - yes", "busy take - hand out - yes", "busy take boss - out - yes",
                  "busy take boss hand - - yes", "busy take boss hand out - -"]),
                ("begin out want take", ["note out want out - no", "note out want out give yes"],
                 ["note - want out - no", "note out - out - no", "note out want - - no", "note out want out - -"]),
                ("state ask w", ["state ask -", "state ask hr"], ["state - w"]), ("up want no", ["up want yes"], ["up - no", "up want -"]),
                ("down yield no", ["down yield yes"], ["down - no", "down yield -"]), ("mark boss", [], ["mark -"])]:
            at = EXAMPLE.split("\n").index(line)
            for other in good:
                self.assertEqual(self.compare(EXAMPLE.replace(line, other)), "good")
            for other in bad:
                self.wrong(EXAMPLE.replace(line, other), at)

    def test_names_and_lengths_are_left_to_the_book(self):
        for old, new, part, index in [
                ("state ask w", "state ask rh", "states", 1), ("state ask w", "state ask wait", "states", 1),
                ("state no -", "state no h", "states", 0), ("state ask w", "state no w", "states", 1),
                ("up hand yes", "up want yes", "ups", 1), ("down yield no", "down give no", "downs", 1),
                ("wish no ask want", "wish no gone want", "wishes", 0), ("wish no ask want", "wish no ask give", "wishes", 0),
                ("answer own yield no hand", "answer ask give no hand", "answers", 1),
                ("task take boss give asker", "task take boss give owner", "tasks", 0),
                ("task take boss give asker", "task take gone give asker", "tasks", 0),
                ("  call out out -", "  call out gone -", "tasks", 0), ("  end out out", "  end out gone", "tasks", 0),
                ("  quiet out", "  quiet out out", "tasks", 0), ("  quiet out", "  quiet gone", "tasks", 0),
                ("begin out want take", "begin out want look", "idles", 0),
                ("begin out want take", "begin out want take\nbegin out want take", "idles", 1),
                ("busy take boss hand out - yes", "busy look boss hand out - yes", "busies", 0)]:
            with self.assertRaises(NoBook) as caught:
                read_book(EXAMPLE.replace(old, new, 1))
            self.assertEqual((caught.exception.part, caught.exception.index), (part, index))

    def test_lists_of_wrong_lengths(self):
        for part, line, many in [("states", "state x -", 8), ("ups", "up x no", 6), ("downs", "down x no", 6), ("marks", "mark x", 7)]:
            lines = ["state a -", "state b -", "up a no", "down a no", "mark a"]
            lines = [one for one in lines if one.split(" ")[0] != line.split(" ")[0]]
            rows = sorted(lines + [line.replace("x", name) for name in "abcdefghijk"[:many]], key=self.rank)
            with self.assertRaises(NoBook) as caught:
                read_book("\n".join(rows))
            self.assertEqual((caught.exception.part, caught.exception.index), (part, -1))
        with self.assertRaises(NoBook) as caught:
            read_book("busy a b c d - no")
        self.assertEqual((caught.exception.part, caught.exception.index), ("states", -1))
        with self.assertRaises(NoBook) as caught:
            read_book(EXAMPLE.replace("\nwish no ask want", "\nwish no ask want" * 31))
        self.assertEqual((caught.exception.part, caught.exception.index), ("wishes", -1))
        with self.assertRaises(NoBook) as caught:
            read_book("\n".join(EXAMPLE.split("\n")[:12]))
        self.assertEqual((caught.exception.part, caught.exception.index), ("tasks", -1))

    def rank(self, line):
        return ["state", "up", "down", "mark"].index(line.split(" ")[0])

    def test_lines_ahead_of_what_the_book_is(self):
        # A wrong line goes ahead of parts that are not right.
        self.wrong("state no h\nstate no h\nup", 2)
        self.wrong(EXAMPLE.replace("state no -", "state no hr") + "\nend", 20)

    def test_the_order_of_the_kinds(self):
        # Without mark lines a task has no call lines and no end lines.
        blocks = ["state a -", "up a no", "down a no", "mark a", "wish a a -", "answer a a a -", "task a a - none\n  quiet a",
                  "begin a a a", "busy a a a a - no"]
        for at, block in enumerate(blocks):
            self.assertEqual(self.compare(block + "\n" + block), "book")
            for further in blocks[at + 1:]:
                self.wrong(further + "\n" + block, len(further.split("\n")))
                if (block, further) == (blocks[3], blocks[6]):
                    further = "task a a - none\n  call a a -\n  end a a\n  quiet a"
                self.assertEqual(self.compare(block + "\n" + further), "book")

    def test_begin_and_note_are_one_kind(self):
        book = made(full_parts())
        for text in ("begin out want take\nnote out drop out - no\nbegin out hand take", "note out drop out - no\nbegin out want take"):
            rows = EXAMPLE.replace("up hand yes", "up hand yes\nup drop no").replace("begin out want take", text)
            self.assertEqual(book_text(read_book(rows)), rows)
        self.assertEqual(read_book(FULL).idles(), book.idles())

    def test_marks_of_tasks(self):
        # The k-th line is of the k-th mark, and there are as many as there are mark lines.
        swapped = EXAMPLE.replace("  call out out -\n  call boss boss yield", "  call boss boss yield\n  call out out -")
        self.wrong(swapped, 13)
        self.wrong(EXAMPLE.replace("  end boss boss", "  end out boss"), 16)
        self.wrong(EXAMPLE.replace("\nmark boss", ""), 13)
        self.wrong(EXAMPLE.replace("\nmark boss", "\nmark boss\nmark odd"), 16)
        self.wrong(EXAMPLE.replace("  call boss boss yield\n", ""), 14)
        self.wrong(EXAMPLE.replace("  quiet out", "  quiet"), 17)
        self.wrong(EXAMPLE.replace("  quiet out", "  quiet "), 17)
        self.wrong(EXAMPLE.replace("\n  quiet out", ""), 17)
        # Two marks of one name, and none at all, are left to the book.
        two = EXAMPLE.replace("mark boss", "mark out").replace("call boss", "call out").replace("end boss", "end out")
        with self.assertRaises(NoBook) as caught:
            read_book(two)
        self.assertEqual((caught.exception.part, caught.exception.index), ("marks", 1))
        with self.assertRaises(NoBook) as caught:
            read_book("task a b - none\n  quiet b")
        self.assertEqual((caught.exception.part, caught.exception.index), ("states", -1))
        self.wrong("task a b - none", 1)
        self.wrong("task a b - none\n  call b b -", 1)
        self.wrong("mark b\ntask a b - none\n  call b b -\n  end b b", 4)

    def test_spaces(self):
        for old, new in [(" ", "  "), ("\n", " \n"), ("\n", "\n "), ("  call", " call"), ("  call", "   call"), ("  quiet", "quiet"),
                         ("  end", "end"), ("state no -", "state  no -"), ("state no -", "state no - "), ("mark out", "mark  out")]:
            self.assertEqual(self.compare(EXAMPLE.replace(old, new, 1)), "text")

    def test_long_texts(self):
        for sign in "a9 \n-":
            self.assertEqual(self.compare(sign * 10000), "text")
            self.assertEqual(self.compare(EXAMPLE + "\n" + sign * 9000), "text")
        self.assertEqual(self.compare("mark a\n" * 1000 + "mark a"), "book")
        self.assertEqual(self.compare("mark a\n" * 300 + "task a a - none\n" + "  call a a -\n" * 300 + "  end a a\n" * 299), "text")
        rows = "mark a\n" * 300 + "task a a - none\n" + "  call a a -\n" * 300 + "  end a a\n" * 300 + "  quiet a"
        self.assertEqual(self.compare(rows), "book")
        self.assertEqual(self.compare("  quiet a\n" * 500), "text")

    def test_errors_are_of_the_package(self):
        chance = Chance(36)
        lines = FULL.split("\n")
        for _ in range(150):
            rows = [chance.one_of(lines) for _ in range(1 + chance.below(12))]
            text = "\n".join(rows)
            try:
                read_book(text)
            except CopyError as error:
                self.assertIn(type(error), (NoText, NoBook))
            self.compare(text)


if __name__ == "__main__":
    unittest.main()
