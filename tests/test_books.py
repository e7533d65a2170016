"""Points [7] and [8], and [2] to [5] where they touch books."""

import copy
import itertools
import unittest

from copybooks.books import Book
from copybooks.errors import NoBook
from copybooks.moments import first
from tests.samples import PARTS, example, example_parts, full_parts, made, nested, odd_values

NAMES = "abcdefghijklmnopqrstuvwxyz"

NO_NAMES = ["", "ninechars", "No", "n o", "no1", "no\n", "-", "n-", "no ", "{}"]


def name_of(at):
    """Different names for different numbers."""
    return "n" + NAMES[at // 26] + NAMES[at % 26]


class BookCase(unittest.TestCase):

    def wrong(self, parts, part, index):
        """Tells that the parts are no book, and that none of them was changed."""
        before = copy.deepcopy([parts[name] for name in PARTS if not has_book(parts[name])])
        with self.assertRaises(NoBook) as caught:
            made(parts)
        self.assertEqual((caught.exception.part, caught.exception.index), (part, index), parts[part])
        self.assertEqual(before, [parts[name] for name in PARTS if not has_book(parts[name])])

    def wrong_item(self, part, index, item, parts=None):
        parts = parts or full_parts()
        parts[part][index] = item
        self.wrong(parts, part, index)

    def wrong_place(self, part, index, place, values):
        """Tells that the item is wrong with each of the values at this place."""
        for value in values:
            item = full_parts()[part][index]
            self.wrong_item(part, index, item[:place] + (value,) + item[place + 1:])


def has_book(value):
    """Whether a Book, which cannot be copied for a comparison of lists, is inside."""
    if isinstance(value, (list, tuple)):
        return any(has_book(inner) for inner in value)
    return isinstance(value, Book)


def odd_but(*kept):
    """Odd values, without those that are right at the place."""
    return [value for value in odd_values() if not any(type(value) is type(one) and value == one for one in kept)]


class TestParts(BookCase):

    def test_parts_come_back_equal(self):
        for parts in (example_parts(), full_parts()):
            book = made(parts)
            for part in PARTS:
                self.assertEqual(getattr(book, part)(), parts[part])
                self.assertIs(type(getattr(book, part)()), list)

    def test_flags_come_back_as_flags(self):
        self.assertIs(made(full_parts()).ups()[0][1], False)
        self.assertIs(made(full_parts()).idles()[2][4], True)

    def test_parts_come_back_new_each_time(self):
        given = full_parts()
        book = made(given)
        for part in PARTS:
            one, other = getattr(book, part)(), getattr(book, part)()
            self.assertIsNot(one, other)
            self.assertIsNot(one, given[part])
        for one, other, handed in zip(book.tasks(), book.tasks(), given["tasks"]):
            for at in (1, 2, 3):
                self.assertIsNot(one[at], other[at])
                self.assertIsNot(one[at], handed[at])

    def test_lists_handed_in_may_change_later(self):
        given = full_parts()
        book = made(given)
        for _, calls, quiet, ends, _, _, _ in given["tasks"]:
            calls[0] = ("boss", "give")
            quiet.clear()
            ends.append("out")
        for part in PARTS:
            given[part].pop()
        for part in PARTS:
            self.assertEqual(getattr(book, part)(), full_parts()[part])

    def test_lists_returned_may_change_later(self):
        book = made(full_parts())
        for _, calls, quiet, ends, _, _, _ in book.tasks():
            calls.clear()
            quiet[0] = "boss"
            ends.reverse()
            ends.pop()
        for part in PARTS:
            getattr(book, part)().clear()
        for part in PARTS:
            self.assertEqual(getattr(book, part)(), full_parts()[part])
        self.assertEqual(book, made(full_parts()))

    def test_no_list_is_the_same_as_another_one(self):
        parts = full_parts()
        same = ["out", "has", "boss"]
        calls = [("out", None), ("out", None), ("out", None)]
        parts["tasks"] = [("one", calls, same, same, "out", None, "none"), ("two", calls, same, same, "out", None, "none"),
                          ("take", calls, same, same, "out", None, "none")]
        parts["idles"] = parts["busies"] = []
        tasks = made(parts).tasks()
        lists = [row[at] for row in tasks for at in (1, 2, 3)]
        self.assertEqual(len({id(one) for one in [tasks, *lists]}), 10)

    def test_nothing_handed_in_is_changed(self):
        given = full_parts()
        made(given)
        self.assertEqual(given, full_parts())

    def test_one_list_may_be_handed_in_for_several_parts(self):
        parts = example_parts()
        parts["wishes"] = parts["answers"] = parts["idles"] = parts["busies"] = []
        book = made(parts)
        book.wishes().append(1)
        self.assertEqual((book.wishes(), book.answers(), book.idles(), book.busies()), ([], [], [], []))


class TestEquality(BookCase):

    def test_equal_books(self):
        self.assertTrue(example() == example())
        self.assertFalse(example() != example())
        self.assertTrue(made(full_parts()) == made(full_parts()))

    def test_each_part_in_turn(self):
        changes = {
            "states": [("no", ""), ("ask", ""), ("own", "hrp")],
            "ups": [("want", False), ("hand", False)],
            "downs": [("give", True), ("yield", True)],
            "marks": ["out", "boss", "more"],
            "wishes": [],
            "answers": [("ask", "give", "own", None), ("own", "yield", "no", "want")],
            "tasks": [("take", [("out", None), ("boss", "yield")], ["out"], ["out", "boss"], "boss", "give", "none")],
            "idles": [],
            "busies": [("take", "boss", "hand", "out", None, False)],
        }
        for part, rows in changes.items():
            parts = {part: rows}
            if part == "marks":
                parts["tasks"] = [("take", [("out", None), ("boss", "yield"), ("out", None)], ["out"],
                                   ["out", "boss", "out"], "boss", "give", "asker")]
                self.assertFalse(example(tasks=parts["tasks"], marks=["out", "boss", "most"]) == example(**parts))
            self.assertFalse(example() == example(**parts), part)
            self.assertTrue(example() != example(**parts), part)

    def test_each_list_within_a_task(self):
        for task in [
            ("take", [("boss", None), ("boss", "yield")], ["out"], ["out", "boss"], "boss", "give", "asker"),
            ("take", [("out", None), ("boss", "give")], ["out"], ["out", "boss"], "boss", "give", "asker"),
            ("take", [("out", None), ("boss", "yield")], ["out", "boss"], ["out", "boss"], "boss", "give", "asker"),
            ("take", [("out", None), ("boss", "yield")], ["out"], ["out", "out"], "boss", "give", "asker"),
            ("take", [("out", None), ("boss", "yield")], ["out"], ["out", "boss"], "out", "give", "asker"),
            ("take", [("out", None), ("boss", "yield")], ["out"], ["out", "boss"], "boss", None, "asker"),
            ("take", [("out", None), ("boss", "yield")], ["out"], ["out", "boss"], "boss", "give", "stays"),
        ]:
            self.assertFalse(example(tasks=[task]) == example(), task)

    def test_order_counts(self):
        for part in PARTS:
            parts = full_parts()
            parts[part] = parts[part][:1] + parts[part][:0:-1]
            if part == "marks":
                continue
            self.assertFalse(made(parts) == made(full_parts()), part)
        quiet = ["boss", "out"]
        one = example(tasks=[("take", [("out", None), ("boss", None)], quiet, ["out", "boss"], "boss", None, "none")])
        quiet.reverse()
        other = example(tasks=[("take", [("out", None), ("boss", None)], quiet, ["out", "boss"], "boss", None, "none")])
        self.assertFalse(one == other)
        parts = example_parts()
        parts["marks"].reverse()
        self.assertFalse(made(parts) == example())

    def test_how_often_counts(self):
        self.assertFalse(example(wishes=[("no", "ask", "want")] * 2) == example())

    def test_other_values(self):
        for value in odd_values():
            if not isinstance(value, Book):
                self.assertIs(example() == value, False)
                self.assertIs(value == example(), False)
                self.assertIs(example() != value, True)
        self.assertIs(example() == first(example(), 1), False)
        self.assertIs(example() == [example_parts()[part] for part in PARTS], False)


class TestLists(BookCase):

    def test_no_list(self):
        for part in PARTS:
            rows = full_parts()[part]
            for value in [tuple(rows), dict.fromkeys(range(len(rows))), None, "out", 0, True, False, example(),
                          nested(rows, 31)]:
                parts = full_parts()
                parts[part] = value
                self.wrong(parts, part, -1)

    def test_a_tuple_of_right_items_is_no_list(self):
        for part in PARTS:
            parts = example_parts()
            parts[part] = tuple(parts[part])
            self.wrong(parts, part, -1)

    def test_least_lengths(self):
        made({
            "states": [("a", ""), ("b", "")], "ups": [("a", False)], "downs": [("a", True)], "marks": ["a"],
            "wishes": [], "answers": [], "tasks": [("a", [("a", None)], ["a"], ["a"], "a", None, "none")],
            "idles": [], "busies": [],
        })
        for part, rows in {"states": [("no", "")], "ups": [], "downs": [], "marks": [], "tasks": []}.items():
            parts = example_parts()
            parts[part] = rows
            self.wrong(parts, part, -1)
        parts = example_parts()
        parts["states"] = []
        self.wrong(parts, "states", -1)

    def longest_parts(self):
        states = [(name_of(at), "") for at in range(7)]
        ups = [(name_of(at), False) for at in range(5)]
        marks = [name_of(at) for at in range(6)]
        task = ([(mark, None) for mark in marks], list(marks), list(marks), marks[0], None, "none")
        return {
            "states": states, "ups": ups, "downs": list(ups), "marks": marks,
            "wishes": [(name_of(0), name_of(1), None)] * 30,
            "answers": [(state[0], down[0], state[0], None) for state in states for down in ups][:30],
            "tasks": [(name_of(at), *task) for at in range(3)],
            "idles": [(mark, up[0], name_of(0)) for mark in marks for up in ups],
            "busies": [(name_of(0), mark, up[0], mark, None, False) for mark in marks for up in ups],
        }

    def test_greatest_lengths(self):
        parts = self.longest_parts()
        book = made(parts)
        self.assertEqual([len(getattr(book, part)()) for part in PARTS], [7, 5, 5, 6, 30, 30, 3, 30, 30])
        for part in PARTS:
            longer = self.longest_parts()
            last = longer[part][-1]
            longer[part].append("zz" if part == "marks" else ("zz",) + last[1:])
            self.wrong(longer, part, -1)

    def test_a_wrong_length_goes_ahead_of_a_wrong_item(self):
        for part in PARTS:
            parts = self.longest_parts()
            parts[part] = [None] * 31
            self.wrong(parts, part, -1)
        parts = example_parts()
        parts["states"] = [None]
        self.wrong(parts, "states", -1)


class TestNamesAndTraits(BookCase):

    def test_names(self):
        for name in ["a", "z", "abcdefgh", "zzzzzzzz", "none", "end"]:
            book = example(states=[(name, ""), ("ask", "")], wishes=[], answers=[])
            self.assertEqual(book.states(), [(name, ""), ("ask", "")])
        for code in range(32, 127):
            self.check_letter(chr(code))
        self.check_letter("\n")

    def check_letter(self, letter):
        for name in (letter, "a" + letter, letter + "abc", "abcdefg" + letter):
            parts = example_parts()
            parts["marks"] = ["out", name]
            parts["busies"] = []
            parts["tasks"] = [("take", [("out", None), ("out", None)], ["out"], ["out", "out"], "out", None, "none")]
            if letter in NAMES:
                self.assertEqual(made(parts).marks()[1], name)
            else:
                self.wrong(parts, "marks", 1)

    def test_traits(self):
        right = 0
        words = ["".join(word) for many in range(6) for word in itertools.product("hrpw", repeat=many)]
        for traits in words + ["H", "x", "hx", "h ", "-", " ", "\n"]:
            parts = example_parts()
            parts["states"][1] = ("ask", traits)
            places = ["hrpw".find(letter) for letter in traits]
            ordered = all(a < b for a, b in zip([-1, *places], places))
            if ordered and ("h" in traits or not ("r" in traits or "p" in traits)):
                right += 1
                self.assertEqual(made(parts).states()[1], ("ask", traits))
            else:
                self.wrong(parts, "states", 1)
        self.assertEqual(right, 10)

    def test_state_0_has_no_traits(self):
        for traits in ["h", "w", "hr", "hrpw", "hp"]:
            parts = example_parts()
            parts["states"][0] = ("no", traits)
            self.wrong(parts, "states", 0)
        self.assertEqual(example(states=[("no", ""), ("ask", ""), ("own", "")]).states()[2], ("own", ""))


class TestPlaces(BookCase):

    def test_items_of_other_forms(self):
        for part in PARTS:
            for index in range(len(full_parts()[part])):
                right = full_parts()[part][index]
                values = odd_but("a") if part == "marks" else odd_values()
                for value in values:
                    if part == "ups" and value == ("no", ""):
                        continue
                    if (part, index) == ("states", 0) and value == ("no", ""):
                        continue
                    self.wrong_item(part, index, value)
                if part != "marks":
                    for item in (list(right), right + (None,), right[:-1], (right,), dict(enumerate(right)), "".join(
                            str(one) for one in right)):
                        self.wrong_item(part, index, item)

    def test_states(self):
        for index in range(6):
            self.wrong_place("states", index, 0, odd_but("a") + NO_NAMES)
            self.wrong_place("states", index, 1, odd_but("") + [["h"], ("h",), ("h", "r"), "rh", "hh", "r", "p", "rp"])

    def test_letters(self):
        for part in ("ups", "downs"):
            for index in range(3):
                self.wrong_place(part, index, 0, odd_but("a") + NO_NAMES)
                self.wrong_place(part, index, 1, odd_but(True, False) + ["yes", "no", "True"])

    def test_marks(self):
        for index in range(3):
            for value in odd_but("a") + NO_NAMES + [("out",)]:
                self.wrong_item("marks", index, value)

    def test_wishes(self):
        for index in range(4):
            for place in (0, 1):
                self.wrong_place("wishes", index, place, odd_values() + ["boss", "want", "give", "take", "hand"])
            self.wrong_place("wishes", index, 2, odd_but(None) + ["no", "give", "yield", "boss", "take", "own"])

    def test_answers(self):
        for index in range(3):
            for place in (0, 2):
                self.wrong_place("answers", index, place, odd_values() + ["boss", "want", "give", "take"])
            self.wrong_place("answers", index, 1, odd_values() + ["hand", "drop", "no", "boss", "take"])
            self.wrong_place("answers", index, 3, odd_but(None) + ["give", "yield", "no", "boss", "take"])

    def test_tasks(self):
        for index in range(3):
            self.wrong_place("tasks", index, 0, odd_but("a") + NO_NAMES)
            for place in (1, 2, 3):
                self.wrong_place("tasks", index, place, odd_but(["out"]) + ["out", ("out", "has", "boss")])
            self.wrong_place("tasks", index, 4, odd_values() + ["no", "want", "give", "take", "ask"])
            self.wrong_place("tasks", index, 5, odd_but(None) + ["hand", "drop", "no", "boss", "take"])
            self.wrong_place("tasks", index, 6, odd_values() + ["owner", "Asker", "stay", "boss", "asker "])

    def test_calls(self):
        right = [("out", None), ("has", "give"), ("out", "yield")]
        values = [right[:2], right + [("out", None)], [], tuple(right), None]
        for at in range(3):
            for value in odd_values() + ["out", ["out", None], ("out",), ("out", None, None), (None, None),
                                         ("no", None), ("out", "hand"), ("out", "boss"), ("out", True), ("out", 0),
                                         (True, None), (["out"], None), ("out", ["give"]), ("want", None)]:
                values.append(right[:at] + [value] + right[at + 1:])
        for index in range(3):
            self.wrong_place("tasks", index, 1, values)

    def test_quiet(self):
        values = [[], ["out", "out"], ["out", "has", "out"], ["out", "has", "boss", "has"], ("out",), None, "out"]
        for value in odd_values() + ["no", "want", "give", "take", ("out",), ["out"]]:
            values += [[value], [value, "out"], ["has", value], ["out", "has", value]]
        for index in range(3):
            self.wrong_place("tasks", index, 2, values)
        for quiet in [["boss"], ["boss", "out", "has"]]:
            parts = full_parts()
            parts["tasks"][0] = parts["tasks"][0][:2] + (quiet,) + parts["tasks"][0][3:]
            self.assertEqual(made(parts).tasks()[0][2], quiet)

    def test_ends(self):
        values = [[], ["out"], ["out", "has"], ["out"] * 4, ("out", "out", "out"), None]
        for value in odd_values() + ["no", "want", "give", "take", ("out",), ["out"]]:
            values += [[value, "out", "out"], ["has", value, "has"], ["out", "has", value]]
        for index in range(3):
            self.wrong_place("tasks", index, 3, values)

    def test_idles(self):
        for index in range(4):
            self.wrong_place("idles", index, 0, odd_values() + ["no", "want", "give", "take", "ask"])
            self.wrong_place("idles", index, 1, odd_values() + ["give", "yield", "no", "boss", "take"])
        for index in (0, 3):
            self.wrong_place("idles", index, 2, odd_values() + ["no", "want", "out", "boss", "ask", "yield"])
        for index in (1, 2):
            self.wrong_place("idles", index, 2, odd_values() + ["no", "want", "give", "take", "ask"])
            self.wrong_place("idles", index, 3, odd_but(None) + ["hand", "drop", "no", "boss", "take"])
            self.wrong_place("idles", index, 4, odd_but(True, False) + ["yes", "no"])
        for item in [("out", "want"), ("out", "want", "out", None), ("out", "want", "take", None, False),
                     ("out", "want", "out", None, False, True), ("out", "want", "out")]:
            self.wrong_item("idles", 0, item)

    def test_busies(self):
        for index in range(3):
            self.wrong_place("busies", index, 0, odd_values() + ["no", "want", "out", "boss", "ask"])
            self.wrong_place("busies", index, 1, odd_values() + ["no", "want", "give", "take", "ask"])
            self.wrong_place("busies", index, 2, odd_values() + ["give", "yield", "no", "boss", "take"])
            self.wrong_place("busies", index, 3, odd_values() + ["no", "want", "give", "take", "ask"])
            self.wrong_place("busies", index, 4, odd_but(None) + ["hand", "drop", "no", "boss", "take"])
            self.wrong_place("busies", index, 5, odd_but(True, False) + ["yes", "no"])

    def test_one_name_may_stand_in_several_lists(self):
        parts = {
            "states": [("a", ""), ("b", "h")], "ups": [("a", False), ("b", True)], "downs": [("a", True), ("b", False)],
            "marks": ["a", "b"], "wishes": [("a", "b", "a"), ("a", "a", "b")],
            "answers": [("a", "a", "a", "a"), ("b", "a", "b", "b")],
            "tasks": [("a", [("a", "a"), ("a", "b")], ["a"], ["b", "b"], "a", "a", "none"),
                      ("b", [("a", "a"), ("a", "b")], ["a"], ["b", "b"], "a", "a", "stays")],
            "idles": [("a", "a", "a"), ("a", "b", "a", "a", True), ("b", "a", "b")],
            "busies": [("a", "a", "a", "a", "a", True), ("b", "a", "a", "a", "a", True)],
        }
        self.assertEqual(made(parts).idles(), parts["idles"])


class TestSecondItems(BookCase):

    def test_second_names(self):
        seconds = {
            "states": ("ask", "hr"), "ups": ("want", True), "downs": ("give", False), "marks": "out",
            "tasks": ("take", [("out", None)] * 3, ["out"], ["out"] * 3, "out", None, "none"),
        }
        for part, item in seconds.items():
            for index in range(1, 3):
                if part == "states" and index == 1:
                    continue
                self.wrong_item(part, index, item)
        self.wrong_item("states", 5, ("no", ""))

    def test_second_answers_idles_and_busies(self):
        seconds = {
            "answers": ("ask", "give", "no", "hand"), "idles": ("out", "want", "has", "give", True),
            "busies": ("take", "boss", "hand", "has", "give", False),
        }
        for part, item in seconds.items():
            for index in range(1, len(full_parts()[part])):
                self.wrong_item(part, index, item)
            self.wrong_item(part, 1, full_parts()[part][0])
        self.wrong_item("idles", 1, ("out", "want", "look"))
        self.wrong_item("idles", 2, ("has", "drop", "take"))

    def test_items_that_differ_in_one_of_the_first_things_may_stand(self):
        parts = full_parts()
        parts["answers"] = [("ask", "give", "own", None), ("ask", "yield", "own", None), ("own", "give", "own", None)]
        parts["idles"] = [("out", "want", "take"), ("out", "hand", "take"), ("has", "want", "take")]
        parts["busies"] = [("take", "out", "want", "out", None, True), ("look", "out", "want", "out", None, True),
                           ("take", "has", "want", "out", None, True), ("take", "out", "hand", "out", None, True)]
        self.assertEqual(made(parts).busies(), parts["busies"])

    def test_wishes_may_be_equal_and_stay(self):
        self.assertEqual(example(wishes=[("no", "no", None)] * 3).wishes(), [("no", "no", None)] * 3)


class TestFirstWrong(BookCase):

    def test_the_first_part_in_order(self):
        for at, part in enumerate(PARTS):
            parts = full_parts()
            for later in PARTS[at:]:
                parts[later] = None
            self.wrong(parts, part, -1)
        for at, part in enumerate(PARTS[:-1]):
            parts = full_parts()
            parts[part][-1] = None
            parts[PARTS[at + 1]] = None
            self.wrong(parts, part, len(parts[part]) - 1)

    def test_the_first_item(self):
        for part in PARTS:
            for index in range(len(full_parts()[part])):
                parts = full_parts()
                parts[part][index:] = [None] * (len(parts[part]) - index)
                self.wrong(parts, part, index)

    def test_a_second_item_ahead_of_a_wrong_one_and_behind_it(self):
        parts = full_parts()
        parts["states"][2:4] = [("ask", ""), ("ask", "rh")]
        self.wrong(parts, "states", 2)
        parts = full_parts()
        parts["states"][2:4] = [("Ask", ""), ("ask", "")]
        self.wrong(parts, "states", 2)

    def test_a_name_that_is_missing_is_told_where_it_is_used(self):
        parts = example_parts()
        parts["marks"] = ["out", "chief"]
        self.wrong(parts, "tasks", 0)
        parts = example_parts()
        parts["states"][2] = ("owns", "hrp")
        self.wrong(parts, "answers", 0)
        parts = example_parts()
        parts["tasks"] = [("taking",) + parts["tasks"][0][1:]]
        self.wrong(parts, "idles", 0)

    def test_fewer_marks_than_calls(self):
        parts = example_parts()
        parts["marks"] = ["out", "boss", "more"]
        self.wrong(parts, "tasks", 0)

    def test_deep_values(self):
        for part in PARTS:
            parts = full_parts()
            parts[part][-1] = nested(parts[part][-1], 30)
            self.wrong(parts, part, len(parts[part]) - 1)
            parts = full_parts()
            parts[part] = nested(None, 31)
            self.wrong(parts, part, -1)


if __name__ == "__main__":
    unittest.main()
