"""The examples of the document that need only what there is, and the example of [35]."""

import unittest

from copybooks.basejudge import base_fault
from copybooks.deciding import decide
from copybooks.moments import first, played
from copybooks.searches import reached, run_fault
from copybooks.viewjudge import closed_fault
from copybooks.views import views
from tests.samples import example


class TestExamples(unittest.TestCase):

    def test_steps(self):
        self.assertEqual(first(example(), 2).steps(), [("wish", 0, 0), ("wish", 1, 0)])

    def test_asked_given_put(self):
        asked = played(first(example(), 2), [("wish", 0, 0), ("take", 0, "want")])
        self.assertEqual(asked.home(), ("take", "last", None, 0))
        given = asked.after(("end",))
        self.assertEqual(given.caches(), [
            ("ask", "none", "boss", (), (("give", "last"),)), ("no", "none", "out", (), ())])
        put = played(given, [("answer", 0, "give"), ("put", 0)])
        self.assertEqual(put.home(), (None, "elder", 0, None))
        self.assertEqual(put.steps(), [("put", 0), ("wish", 1, 0)])

    def test_searches(self):
        self.assertEqual(reached(example(), 1), 6)
        self.assertEqual(run_fault(example(), 2, [("wish", 0, 0), ("wish", 0, 0)]), ("step", 1))

    def test_decide(self):
        self.assertEqual(decide(example())[:2], ("right", 1))

    def test_right_by_its_views_of_1(self):
        word, found = views(example(), 1)
        self.assertEqual(word, "closed")
        self.assertIsNone(closed_fault(example(), 1, found))
        self.assertIsNone(base_fault(example(), [], []))
        # Whoever owns the line has the mark boss, and what home gives is the last put.
        for (_, memory, owner, asker), others in found:
            self.assertTrue(owner is None or owner[2] == "boss")
            self.assertEqual([local for local in others if local[2] == "boss"], [])
            for local in [*others, owner, asker]:
                self.assertNotIn(("give", "elder"), local[4] if local is not None else ())

    def test_handing_on(self):
        run = [("wish", 0, 0), ("take", 0, "want"), ("end",), ("answer", 0, "give"), ("put", 0), ("wish", 1, 0),
               ("take", 1, "want"), ("answer", 0, "yield"), ("take", 0, "hand"), ("end",), ("answer", 1, "give")]
        moment = played(first(example(), 2), run)
        self.assertEqual(moment.home(), (None, "last", 1, None))
        self.assertEqual(moment.caches(), [("no", "none", "out", (), ()), ("own", "last", "boss", (), ())])


if __name__ == "__main__":
    unittest.main()
