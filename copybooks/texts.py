"""Books as texts, and texts as books."""

from copybooks.bookparts import PARTS
from copybooks.books import book_of, parts_of
from copybooks.checks import is_name
from copybooks.errors import NoText

# The words behind the head of a line: a name (n), a name or - for None (o), a name or - for no traits (t),
# yes or no (f).
FORMS = {
    "state": "nt", "up": "nf", "down": "nf", "mark": "n", "wish": "nno", "answer": "nnno", "task": "nnon",
    "  call": "nno", "  end": "nn", "begin": "nnn", "note": "nnnof", "busy": "nnnnof",
}

PART_OF = {
    "state": "states", "up": "ups", "down": "downs", "mark": "marks", "wish": "wishes", "answer": "answers",
    "task": "tasks", "begin": "idles", "note": "idles", "busy": "busies",
}

# Begin and note are one kind of lines.
ORDER = ("state", "up", "down", "mark", "wish", "answer", "task", "begin", "busy")

QUIET = "  quiet "


def written(value):
    """The word for a value of an item."""
    if value is None or value == "":
        return "-"
    if value is True:
        return "yes"
    return "no" if value is False else value


def line_of(head, values):
    """The line with this head and these values."""
    return " ".join([head] + [written(value) for value in values])


def task_lines(task, marks):
    """The lines of a task."""
    name, calls, quiet, ends, mark, down, owner = task
    lines = [line_of("task", (name, mark, down, owner))]
    lines.extend([line_of("  call", (old,) + call) for old, call in zip(marks, calls)])
    lines.extend([line_of("  end", (old, end)) for old, end in zip(marks, ends)])
    return lines + [QUIET + " ".join(quiet)]


def book_text(book):
    """The text of a book."""
    parts = parts_of(book)
    lines = []
    for head in ("state", "up", "down", "mark", "wish", "answer"):
        rows = [(row,) if head == "mark" else row for row in parts[PART_OF[head]]]
        lines.extend([line_of(head, row) for row in rows])
    for task in parts["tasks"]:
        lines.extend(task_lines(task, parts["marks"]))
    lines.extend([line_of("begin" if len(row) == 3 else "note", row) for row in parts["idles"]])
    lines.extend([line_of("busy", row) for row in parts["busies"]])
    return "\n".join(lines)


def is_word(word, sign):
    """Whether the word may stand for the sign of a form."""
    if sign == "f":
        return word in ("yes", "no")
    return is_name(word) or (word == "-" and sign in ("o", "t"))


def value_of(word, sign):
    """The value of a word that may stand for the sign of a form."""
    if sign == "f":
        return word == "yes"
    if word == "-":
        return None if sign == "o" else ""
    return word


def values_at(lines, at, head):
    """The tuple of the values of a line that must have this head; raises NoText if it has not its form."""
    words = words_at(lines, at, head + " ")
    signs = FORMS[head]
    if len(words) != len(signs) or not all([is_word(word, sign) for word, sign in zip(words, signs)]):
        raise NoText(at)
    return tuple([value_of(word, sign) for word, sign in zip(words, signs)])


def words_at(lines, at, begin):
    """The words behind the beginning of a line; raises NoText if there is no such line."""
    if at == len(lines) or not lines[at].startswith(begin):
        raise NoText(at)
    return lines[at][len(begin):].split(" ")


def read_marked(lines, at, head, marks):
    """The values, but for the first ones, of lines that tell of one mark each."""
    found = []
    for index, mark in enumerate(marks, at):
        values = values_at(lines, index, head)
        if values[0] != mark:
            raise NoText(index)
        found.append(values[1:])
    return found


def read_task(lines, at, marks):
    """The task whose lines begin here."""
    name, mark, down, owner = values_at(lines, at, "task")
    calls = read_marked(lines, at + 1, "  call", marks)
    ends = [row[0] for row in read_marked(lines, at + 1 + len(marks), "  end", marks)]
    last = at + 1 + 2 * len(marks)
    quiet = words_at(lines, last, QUIET)
    if not all([is_name(word) for word in quiet]):
        raise NoText(last)
    return (name, calls, quiet, ends, mark, down, owner)


def place_in_order(head):
    """The place of the kind of lines with this head; -1 if there is none."""
    kind = "begin" if head == "note" else head
    return ORDER.index(kind) if kind in ORDER else -1


def read_book(text):
    """The book whose text it is."""
    if not isinstance(text, str):
        raise NoText(-1)
    lines = text.split("\n")
    parts = {part: [] for part in PARTS}
    place = at = 0
    while at < len(lines):
        head = lines[at].partition(" ")[0]
        if place_in_order(head) < place:
            raise NoText(at)
        place = place_in_order(head)
        if head == "task":
            parts["tasks"].append(read_task(lines, at, parts["marks"]))
            at += 2 * len(parts["marks"]) + 2
        else:
            values = values_at(lines, at, head)
            parts[PART_OF[head]].append(values[0] if head == "mark" else values)
            at += 1
    return book_of(parts)
