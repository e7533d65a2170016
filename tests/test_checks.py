"""Points [2] and [13]: what is an integer, a name, and a step, whatever the book."""

import unittest

from copybooks.checks import is_integer, is_name, is_step
from tests.samples import odd_values
from tests.test_moments import no_steps


class TestForms(unittest.TestCase):

    def test_integers(self):
        for value in (1, 2, 6):
            self.assertTrue(is_integer(value, 1, 6))
        for value in [0, 7, -1] + [value for value in odd_values() if value != 1]:
            self.assertFalse(is_integer(value, 1, 6))
        self.assertFalse(is_integer(True, 0, 6))
        self.assertFalse(is_integer(False, 0, 6))

    def test_names(self):
        for value in ("a", "z", "none", "abcdefgh"):
            self.assertTrue(is_name(value))
        for value in odd_values() + ["abcdefghi", "A", "a b", "a1", "a\n", "`", "{", "e-", ["a"], ("a",)]:
            if value != "a":
                self.assertFalse(is_name(value))

    def test_steps(self):
        for step in [("end",), ("put", 0), ("put", 5), ("wish", 0, 0), ("wish", 5, 29), ("answer", 0, "a"),
                     ("answer", 5, "abcdefgh"), ("take", 3, "wish"), ("take", 5, "zz"), ("take", 0, "end"), ("answer", 0, "put")]:
            self.assertTrue(is_step(step), step)
        for value in no_steps():
            self.assertFalse(is_step(value))
        for value in [("go", 0, "a"), ("puts", 0, "a"), ("end", 0, "a"), ("put", 0, "a"), ("wish", 0, "a"),
                      ("take", 6, "a"), ("answer", -1, "a"), ("take", 0, "abcdefghi"), (None, 0, "a"), ("", 0, "a")]:
            self.assertFalse(is_step(value), value)


if __name__ == "__main__":
    unittest.main()
