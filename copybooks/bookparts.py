"""The parts of a book: what each item of them must be, and which item is the first wrong one."""

from copybooks.checks import is_name

PARTS = ("states", "ups", "downs", "marks", "wishes", "answers", "tasks", "idles", "busies")

# The parts whose items tell what caches and home do, one thing each.
RULES = ("wishes", "answers", "idles", "busies")

NAMED = ("states", "ups", "downs", "tasks")

TRAITS = ("", "h", "hr", "hp", "hrp", "w", "hw", "hrw", "hpw", "hrpw")

OWNERS = ("asker", "none", "stays")

LENGTHS = {
    "states": (2, 7),
    "ups": (1, 5),
    "downs": (1, 5),
    "marks": (1, 6),
    "wishes": (0, 30),
    "answers": (0, 30),
    "tasks": (1, 3),
    "idles": (0, 30),
    "busies": (0, 30),
}

# How many of its first things tell an item from each earlier one; wishes may be equal.
HEADS = {"states": 1, "ups": 1, "downs": 1, "answers": 2, "tasks": 1, "idles": 2, "busies": 3}


def has_length(row, many):
    """Whether the row is a tuple of this length."""
    return isinstance(row, tuple) and len(row) == many


def is_one_or_none(value, names):
    """Whether the value is one of the names, or None."""
    return value is None or value in names


def is_state(row, _):
    """Whether the row is a state."""
    return has_length(row, 2) and is_name(row[0]) and row[1] in TRAITS


def is_letter(row, _):
    """Whether the row is a kind of letters."""
    return has_length(row, 2) and is_name(row[0]) and isinstance(row[1], bool)


def is_mark(row, _):
    """Whether the row is a mark."""
    return is_name(row)


def is_wish(row, names):
    """Whether the row is a wish, alone."""
    if not has_length(row, 3):
        return False
    begin, goal, up = row
    return begin in names["states"] and goal in names["states"] and is_one_or_none(up, names["ups"])


def is_answer(row, names):
    """Whether the row is an answer, alone."""
    if not has_length(row, 4):
        return False
    begin, down, goal, up = row
    if begin not in names["states"] or goal not in names["states"]:
        return False
    return down in names["downs"] and is_one_or_none(up, names["ups"])


def are_calls(rows, names):
    """Whether the rows are a task's calls: for each mark its new mark and a letter or none."""
    if not isinstance(rows, list) or len(rows) != len(names["marks"]):
        return False
    return all([
        has_length(row, 2) and row[0] in names["marks"] and is_one_or_none(row[1], names["downs"])
        for row in rows
    ])


def are_quiet(rows, marks):
    """Whether the rows are a task's quiet marks: at least one, none twice."""
    if not isinstance(rows, list) or rows == []:
        return False
    return all([mark in marks and mark not in rows[:at] for at, mark in enumerate(rows)])


def are_ends(rows, marks):
    """Whether the rows are a task's ends: for each mark a mark."""
    return isinstance(rows, list) and len(rows) == len(marks) and all([mark in marks for mark in rows])


def is_task(row, names):
    """Whether the row is a task, alone."""
    if not has_length(row, 7):
        return False
    name, calls, quiet, ends, mark, down, owner = row
    marks = names["marks"]
    if not is_name(name) or not are_calls(calls, names):
        return False
    if not are_quiet(quiet, marks) or not are_ends(ends, marks):
        return False
    return mark in marks and is_one_or_none(down, names["downs"]) and owner in OWNERS


def is_reply(mark, down, frees, names):
    """Whether the three are what home does with a letter that begins no task."""
    return mark in names["marks"] and is_one_or_none(down, names["downs"]) and isinstance(frees, bool)


def is_idle(row, names):
    """Whether the row is an item of idles, alone."""
    if not has_length(row, 3) and not has_length(row, 5):
        return False
    if row[0] not in names["marks"] or row[1] not in names["ups"]:
        return False
    if len(row) == 3:
        return row[2] in names["tasks"]
    return is_reply(row[2], row[3], row[4], names)


def is_busy(row, names):
    """Whether the row is an item of busies, alone."""
    if not has_length(row, 6):
        return False
    task, mark, up, goal, down, frees = row
    if task not in names["tasks"] or mark not in names["marks"] or up not in names["ups"]:
        return False
    return is_reply(goal, down, frees, names)


ITEMS = {
    "states": is_state,
    "ups": is_letter,
    "downs": is_letter,
    "marks": is_mark,
    "wishes": is_wish,
    "answers": is_answer,
    "tasks": is_task,
    "idles": is_idle,
    "busies": is_busy,
}


def may_stand(part, row, before):
    """Whether the row, right by itself, may stand behind these rows of its part."""
    if part == "states" and before == [] and row[1] != "":
        return False
    if part == "marks":
        return row not in before
    if part == "wishes":
        return True
    many = HEADS[part]
    return row[:many] not in [other[:many] for other in before]


def wrong_index(part, rows, names):
    """The index of the first wrong item of a part; -1 if it is wrong as a list, None if it is right."""
    least, greatest = LENGTHS[part]
    if not isinstance(rows, list) or not least <= len(rows) <= greatest:
        return -1
    is_item = ITEMS[part]
    for index, row in enumerate(rows):
        if not is_item(row, names) or not may_stand(part, row, rows[:index]):
            return index
    return None


def names_in(part, rows):
    """The names that the items of a right part have, none for a part without names."""
    if part == "marks":
        return list(rows)
    return [row[0] for row in rows] if part in NAMED else []


def names_of(parts):
    """The names that items may tell of, by the parts that have them; the parts are a dict of right ones."""
    return {part: names_in(part, rows) for part, rows in parts.items()}


def wrong_part(parts):
    """The tuple (part, index) of what is wrong first in the nine parts of a book, or None."""
    names = {}
    for part, rows in zip(PARTS, parts):
        index = wrong_index(part, rows, names)
        if index is not None:
            return (part, index)
        names[part] = names_in(part, rows)
    return None


def copied_tasks(tasks):
    """The tasks with lists of their own."""
    return [
        (name, list(calls), list(quiet), list(ends), mark, down, owner)
        for name, calls, quiet, ends, mark, down, owner in tasks
    ]
