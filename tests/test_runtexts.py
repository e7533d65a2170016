"""Point [36]: runs as texts."""

import unittest

from copybooks.errors import NoRun, NoText
from copybooks.moments import first
from copybooks.runtexts import read_run, run_text
from copybooks.searches import shortest
from tests.naive_texts import wrong_step
from tests.samples import Chance, chance_book, example, odd_values
from tests.test_halls import HANDED, OWNED
from tests.test_moments import no_steps, steps_of_no_moment

EVERY = [("wish", 0, 0), ("wish", 5, 29), ("answer", 3, "give"), ("take", 2, "abcdefgh"), ("end",), ("put", 0), ("put", 5),
         ("take", 1, "wish"), ("answer", 0, "a"), ("wish", 4, 10), ("take", 0, "end")]

TEXT = """wish 0 0
wish 5 29
answer 3 give
take 2 abcdefgh
end
put 0
put 5
take 1 wish
answer 0 a
wish 4 10
take 0 end"""


class RunTextCase(unittest.TestCase):

    def wrong(self, text, line):
        with self.assertRaises(NoText) as caught:
            read_run(text)
        self.assertEqual(caught.exception.line, line)

    def compare(self, text):
        """Compares what is told of a text with its forms written a second time; returns whether it is good."""
        line = wrong_step(text)
        if line is not None:
            self.wrong(text, line)
            return False
        self.assertEqual(run_text(read_run(text)), text)
        return True


class TestRunText(RunTextCase):

    def test_every_form(self):
        self.assertEqual(run_text(EVERY), TEXT)
        for step, line in zip(EVERY, TEXT.split("\n")):
            self.assertEqual(run_text([step]), line)

    def test_the_empty_run(self):
        self.assertEqual(run_text([]), "")

    def test_read_again(self):
        for run in (EVERY, [], OWNED + HANDED, EVERY * 18, [("end",)] * 200):
            self.assertEqual(read_run(run_text(run)), run)
        for seed in range(40):
            run = shortest(chance_book(seed), 1, most=20000)
            if run is not None:
                self.assertEqual(read_run(run_text(run)), run)

    def test_whatever_the_book(self):
        self.assertEqual(read_run(run_text(steps_of_no_moment())), steps_of_no_moment())

    def test_no_runs(self):
        for value in odd_values() + [tuple(EVERY), (), {}, EVERY[0], TEXT, example()]:
            if not isinstance(value, list):
                with self.assertRaises(NoRun) as caught:
                    run_text(value)
                self.assertEqual(caught.exception.index, -1)

    def test_the_first_item_that_is_no_step(self):
        for value in no_steps():
            for at in (0, 1, len(EVERY)):
                for more in ([], [None]):
                    with self.assertRaises(NoRun) as caught:
                        run_text(EVERY[:at] + [value] + EVERY[at:] + more)
                    self.assertEqual(caught.exception.index, at)

    def test_nothing_changes(self):
        run = EVERY + [None]
        with self.assertRaises(NoRun):
            run_text(run)
        self.assertEqual(run, EVERY + [None])


class TestReadRun(RunTextCase):

    def test_every_form(self):
        self.assertEqual(read_run(TEXT), EVERY)
        for step in read_run(TEXT):
            self.assertIs(type(step), tuple)
        self.assertIs(type(read_run("wish 1 1")[0][1]), int)
        self.assertEqual(first(example(), 1).after(read_run("wish 0 0")[0]), first(example(), 1).after(("wish", 0, 0)))

    def test_all_integers(self):
        for i in range(-1, 12):
            self.assertEqual(self.compare(f"put {i}"), 0 <= i <= 5)
            for index in range(-1, 40):
                self.assertEqual(self.compare(f"wish {i} {index}"), 0 <= i <= 5 and 0 <= index <= 29)

    def test_the_empty_string(self):
        self.assertEqual(read_run(""), [])
        self.assertIs(type(read_run("")), list)
        self.assertIsNot(read_run(""), read_run(""))

    def test_empty_lines(self):
        self.wrong("\n", 0)
        self.wrong("end\n", 1)
        self.wrong("\nend", 0)
        self.wrong("end\n\nend", 1)
        self.wrong(TEXT + "\n", 11)

    def test_no_strings(self):
        for value in odd_values() + [[TEXT], (TEXT,), EVERY, [], None, example()]:
            if not isinstance(value, str):
                self.wrong(value, -1)

    def test_integers_without_signs_and_zeros_ahead(self):
        for word in ["00", "01", "+1", "-1", "-0", "1.0", "1_0", "0x1", " 1", "1 ", "", "one", "6", "30", "1e1", "029", "0b1", "\\u0031"]:
            self.wrong(f"put {word}", 0)
            self.wrong(f"end\nwish {word} 0", 1)
            if word != "6":
                self.wrong(f"end\nend\nwish 0 {word}", 2)
            self.wrong(f"take {word} want", 0)
            self.wrong(f"answer {word} give", 0)
        self.assertEqual(read_run("wish 0 6"), [("wish", 0, 6)])

    def test_thousands_of_digits(self):
        for digits in ("9" * 9990, "1" + "0" * 5000, "0" * 9000, "1" * 4301):
            self.wrong("put " + digits, 0)
            self.wrong("end\nwish " + digits, 1)
            self.wrong("end\nwish 0 " + digits, 1)
            self.wrong("wish " + digits + " 0", 0)
            self.wrong("take " + digits + " want", 0)
            self.wrong("take 0 " + digits, 0)
            self.wrong(digits, 0)

    def test_names(self):
        for word in ["abcdefghi", "Want", "want1", "1", "-", "wa-nt", "want ", " want", "", "w\"nt"]:
            self.wrong(f"take 0 {word}", 0)
            self.wrong(f"answer 0 {word}", 0)

    def test_other_words(self):
        for line in ["End", "end ", " end", "end 0", "ends", "en", "wish", "wish 0", "wish 0 0 0", "put", "put 0 0", "take 0", "take want 0",
                     "take 0 want want", "answer 0", "answer give 0", "go 0 0", "wish 0 want", "put want", "wish  0 0", "wish 0  0",
                     "jam 0 want", "(end)", "('end',)", "-", "0", "call 0 want", "wish 0 0,", "end\\n"]:
            self.wrong(line, 0)
            self.wrong("end\n" + line + "\nend", 1)
            self.assertEqual(wrong_step(line), 0)

    def test_each_sign_and_beginning(self):
        chance, good = Chance(37), 0
        for at in range(len(TEXT) + 1):
            good += self.compare(TEXT[:at])
            for sign in {chance.one_of(" -+019az\n_A"), chance.one_of("0123456789"), " ", "0"}:
                good += self.compare(TEXT[:at] + sign + TEXT[at:])
                good += self.compare(TEXT[:at] + sign + TEXT[at + 1:])
            good += self.compare(TEXT[:at] + TEXT[at + 1:])
        self.assertGreater(good, 50)

    def test_each_line_left_out_doubled_or_exchanged(self):
        lines = TEXT.split("\n")
        for at in range(len(lines)):
            self.assertEqual(read_run("\n".join(lines[:at] + lines[at + 1:])), EVERY[:at] + EVERY[at + 1:])
            self.assertEqual(read_run("\n".join(lines[:at] + [lines[at]] + lines[at:])), EVERY[:at] + [EVERY[at]] + EVERY[at:])
            self.wrong("\n".join(lines[:at] + ["no"] + lines[at:]), at)

    def test_long_texts(self):
        run = [("take", 0, "abcdefgh")] * 625
        self.assertEqual(read_run(run_text(run)), run)
        for sign in "a9 \n-":
            self.wrong(sign * 10000, 0)


if __name__ == "__main__":
    unittest.main()
