"""The examples of the document, and the example of [35]."""

import ast
import os
import unittest

from copybooks.basejudge import base_fault
from copybooks.bases import base, cutoff
from copybooks.deciding import decide
from copybooks.halls import log_fault
from copybooks.moments import first, played
from copybooks.resting import rests
from copybooks.searches import reached, run_fault
from copybooks.texts import book_text, read_book
from copybooks.viewjudge import closed_fault
from copybooks.views import views
from tests.samples import example
from tests.test_texts import EXAMPLE


README = os.path.join(os.path.dirname(os.path.dirname(os.path.abspath(__file__))), "README.md")


class TestReadme(unittest.TestCase):

    def test_its_example(self):
        # What a line tells behind the sign of a comment, ahead of a colon or as a whole, is what comes of it.
        with open(README, encoding="utf-8") as file:
            code = file.read().split("```python\n")[1].split("```")[0]
        names, compared, lines = {"print": str}, 0, code.split("\n")
        for node in ast.parse(code).body:
            told = lines[node.end_lineno - 1].partition("#")[2].strip()
            if not isinstance(node, ast.Expr):
                exec(compile(ast.Module([node], []), "README.md", "exec"), names)
                continue
            found = repr(eval(compile(ast.Expression(node.value), "README.md", "eval"), names))
            if told.startswith(found):
                compared += 1
        self.assertGreaterEqual(compared, 28)


class TestExamples(unittest.TestCase):

    def test_steps(self):
        self.assertEqual(first(example(), 2).steps(), [("wish", 0, 0), ("wish", 1, 0)])

    def test_asked_given_put(self):
        asked = played(first(example(), 2), [("wish", 0, 0), ("take", 0, "want")])
        self.assertEqual(asked.home(), ("take", "last", None, 0))
        given = asked.after(("end",))
        self.assertEqual(given.caches(), [
            ("ask", "none", "boss", (), (("give", "last"),)), ("no", "none", "out", (), ())])
        put = played(given, [("answer", 0, "give"), ("put", 0)])
        self.assertEqual(put.home(), (None, "elder", 0, None))
        self.assertEqual(put.steps(), [("put", 0), ("wish", 1, 0)])

    def test_searches(self):
        self.assertEqual(reached(example(), 1), 6)
        self.assertEqual(run_fault(example(), 2, [("wish", 0, 0), ("wish", 0, 0)]), ("step", 1))

    def test_decide(self):
        self.assertEqual(decide(example())[:2], ("right", 1))

    def test_rests(self):
        self.assertEqual(rests(example()), ("rests",))

    def test_logs(self):
        self.assertEqual(log_fault([("put", 0, 0, 5), ("read", 0, 1, 4)]), ("read", 1))

    def test_the_text(self):
        book = read_book(EXAMPLE)
        self.assertEqual(book, example())
        self.assertEqual(book_text(book), EXAMPLE)

    def test_all_of_them_for_the_book_that_is_read(self):
        book = read_book(EXAMPLE)
        self.assertEqual(first(book, 2).steps(), [("wish", 0, 0), ("wish", 1, 0)])
        asked = played(first(book, 2), [("wish", 0, 0), ("take", 0, "want")])
        self.assertEqual(asked.home(), ("take", "last", None, 0))
        given = asked.after(("end",))
        self.assertEqual(given.caches(), [
            ("ask", "none", "boss", (), (("give", "last"),)), ("no", "none", "out", (), ())])
        put = played(given, [("answer", 0, "give"), ("put", 0)])
        self.assertEqual((put.home(), put.steps()), ((None, "elder", 0, None), [("put", 0), ("wish", 1, 0)]))
        self.assertEqual((reached(book, 1), run_fault(book, 2, [("wish", 0, 0), ("wish", 0, 0)])), (6, ("step", 1)))
        self.assertEqual((decide(book)[:2], rests(book)), (("right", 1), ("rests",)))

    def test_nothing_is_harmful(self):
        self.assertEqual((base(example()), cutoff(example())), ([], None))

    def test_right_by_its_views_of_1(self):
        word, found = views(example(), 1)
        self.assertEqual(word, "closed")
        self.assertIsNone(closed_fault(example(), 1, found))
        self.assertIsNone(base_fault(example(), [], []))
        # Whoever owns the line has the mark boss, and what home gives is the last put.
        for (_, memory, owner, asker), others in found:
            self.assertTrue(owner is None or owner[2] == "boss")
            self.assertEqual([local for local in others if local[2] == "boss"], [])
            for local in [*others, owner, asker]:
                self.assertNotIn(("give", "elder"), local[4] if local is not None else ())

    def test_handing_on(self):
        run = [("wish", 0, 0), ("take", 0, "want"), ("end",), ("answer", 0, "give"), ("put", 0), ("wish", 1, 0),
               ("take", 1, "want"), ("answer", 0, "yield"), ("take", 0, "hand"), ("end",), ("answer", 1, "give")]
        moment = played(first(example(), 2), run)
        self.assertEqual(moment.home(), (None, "last", 1, None))
        self.assertEqual(moment.caches(), [("no", "none", "out", (), ()), ("own", "last", "boss", (), ())])


if __name__ == "__main__":
    unittest.main()
