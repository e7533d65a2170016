"""Books and values that several tests use."""

from copybooks.books import Book

PARTS = ("states", "ups", "downs", "marks", "wishes", "answers", "tasks", "idles", "busies")


def made(parts):
    """The book of a dict of its parts."""
    return Book(*[parts[part] for part in PARTS])


def example_parts():
    """The parts of the example of the document, as new lists."""
    return {
        "states": [("no", ""), ("ask", "w"), ("own", "hrp")],
        "ups": [("want", False), ("hand", True)],
        "downs": [("give", True), ("yield", False)],
        "marks": ["out", "boss"],
        "wishes": [("no", "ask", "want")],
        "answers": [("ask", "give", "own", None), ("own", "yield", "no", "hand")],
        "tasks": [
            ("take", [("out", None), ("boss", "yield")], ["out"], ["out", "boss"], "boss", "give", "asker"),
        ],
        "idles": [("out", "want", "take")],
        "busies": [("take", "boss", "hand", "out", None, True)],
    }


def example(**changes):
    """The example of the document, with some parts replaced."""
    return made({**example_parts(), **changes})


def shared_parts():
    """The parts of a book that is right, in which several caches may read, or one may put."""
    return {
        "states": [("no", ""), ("askread", "w"), ("askput", "w"), ("has", "hr"), ("own", "hrp")],
        "ups": [("read", False), ("put", False), ("hand", True), ("gone", False)],
        "downs": [("give", True), ("lend", True), ("leave", False), ("share", False)],
        "marks": ["out", "has", "boss"],
        "wishes": [("no", "askread", "read"), ("no", "askput", "put")],
        "answers": [("askread", "lend", "has", None), ("askput", "give", "own", None), ("has", "leave", "no", "gone"),
                    ("own", "leave", "no", "hand"), ("own", "share", "has", "hand")],
        "tasks": [
            ("reading", [("out", None), ("has", None), ("boss", "share")], ["out", "has"], ["out", "has", "boss"],
             "has", "lend", "none"),
            ("putting", [("out", None), ("has", "leave"), ("boss", "leave")], ["out"], ["out", "has", "boss"],
             "boss", "give", "asker"),
        ],
        "idles": [("out", "read", "reading"), ("out", "put", "putting")],
        "busies": [("reading", "boss", "hand", "has", None, True), ("putting", "has", "gone", "out", None, False),
                   ("putting", "boss", "hand", "out", None, True)],
    }


def full_parts():
    """Parts with an item of every form, some names in several lists."""
    return {
        "states": [("no", ""), ("ask", "w"), ("has", "hr"), ("own", "hrp"), ("odd", "hw"), ("out", "w")],
        "ups": [("want", False), ("hand", True), ("drop", True)],
        "downs": [("give", True), ("yield", False), ("want", False)],
        "marks": ["out", "has", "boss"],
        "wishes": [("no", "ask", "want"), ("has", "no", None), ("own", "no", "hand"), ("no", "ask", "want")],
        "answers": [("ask", "give", "own", None), ("own", "yield", "no", "hand"), ("has", "yield", "no", "want")],
        "tasks": [
            ("take", [("out", None), ("has", "yield"), ("boss", "yield")], ["out", "has"],
             ["out", "has", "out"], "boss", "give", "asker"),
            ("look", [("has", "want"), ("has", None), ("boss", "give")], ["out", "has", "boss"],
             ["boss", "out", "has"], "has", None, "stays"),
            ("give", [("out", None), ("out", None), ("out", "give")], ["boss"],
             ["out", "has", "boss"], "out", "yield", "none"),
        ],
        "idles": [("out", "want", "take"), ("has", "drop", "out", None, False), ("boss", "hand", "out", "give", True),
                  ("out", "hand", "look")],
        "busies": [("take", "boss", "hand", "out", None, True), ("take", "has", "want", "out", "yield", False),
                   ("look", "boss", "hand", "boss", "give", False)],
    }


def small(**changes):
    """A book with little in it, with some parts replaced."""
    parts = {
        "states": [("no", ""), ("own", "hrp")],
        "ups": [("want", False)],
        "downs": [("give", True)],
        "marks": ["out"],
        "wishes": [],
        "answers": [],
        "tasks": [("take", [("out", None)], ["out"], ["out"], "out", None, "stays")],
        "idles": [],
        "busies": [],
    }
    return made({**parts, **changes})


def nested(value, depth):
    """The value within so many lists and tuples."""
    for at in range(depth):
        value = [value] if at & 1 else (value,)
    return value


def odd_values():
    """Values of every sort that callers may hand in where something else is due."""
    book = example()
    return [
        None, True, False, 0, 1, -1, 7, 10 ** 30, "", "a", "no such", "toolongname", "Take", "-", "\n", [], (), {},
        [1], (1,), ["out"], ("out",), ["take", []], {"out": 1}, ("no", ""), [("no", "")], book, [book], (book, 0),
        nested("out", 30), nested(None, 60),
    ]


class Chance:
    """Numbers that look random and are the same in each run and under each Python."""

    def __init__(self, seed):
        self.state = seed * 2654435761 + 12345

    def below(self, many):
        self.state = (self.state * 6364136223846793005 + 1442695040888963407) % 2 ** 64
        return (self.state >> 33) % many

    def one_of(self, rows):
        return rows[self.below(len(rows))]

    def flag(self):
        return self.below(2) == 1


def chance_task(chance, name, marks, downs):
    """A task of a chance book."""
    calls = [(chance.one_of(marks), chance.one_of(downs + [None, None])) for _ in marks]
    quiet = [mark for mark in marks if chance.below(3)] or [marks[0]]
    ends = [chance.one_of(marks) for _ in marks]
    return (name, calls, quiet, ends, chance.one_of(marks), chance.one_of(downs + [None]),
            chance.one_of(["asker", "none", "stays"]))


def unlike(rows, many):
    """The rows without those that begin with as many things as an earlier one."""
    heads = []
    found = []
    for row in rows:
        if row[:many] not in heads:
            heads.append(row[:many])
            found.append(row)
    return found


def chance_idle(chance, marks, ups, downs, tasks):
    """An item of idles of a chance book."""
    head = (chance.one_of(marks), chance.one_of(ups))
    if chance.flag():
        return head + (chance.one_of(tasks),)
    return head + (chance.one_of(marks), chance.one_of(downs + [None]), chance.flag())


def chance_book(seed):
    """A book with few of everything, made by chance."""
    chance = Chance(seed)
    states = ["a", "b", "c", "d"][:2 + chance.below(3)]
    ups, downs = ["u", "v", "w"][:1 + chance.below(3)], ["x", "y", "z"][:1 + chance.below(3)]
    marks, tasks = ["m", "n", "o"][:1 + chance.below(3)], ["s", "t"][:1 + chance.below(2)]
    traits = ["", "h", "hr", "hrp", "hrp", "w", "hp", "hrpw"]
    return made({
        "states": [(name, chance.one_of(traits) if at else "") for at, name in enumerate(states)],
        "ups": [(name, chance.flag()) for name in ups],
        "downs": [(name, chance.flag()) for name in downs],
        "marks": marks,
        "wishes": [(chance.one_of(states), chance.one_of(states), chance.one_of(ups + [None]))
                   for _ in range(1 + chance.below(4))] + [("a", chance.one_of(states), chance.one_of(ups))],
        "answers": unlike([(chance.one_of(states), chance.one_of(downs), chance.one_of(states),
                            chance.one_of(ups + [None])) for _ in range(6)], 2),
        "tasks": [chance_task(chance, name, marks, downs) for name in tasks],
        "idles": unlike([chance_idle(chance, marks, ups, downs, tasks) for _ in range(6)], 2),
        "busies": unlike([(chance.one_of(tasks), chance.one_of(marks), chance.one_of(ups), chance.one_of(marks),
                           chance.one_of(downs + [None]), chance.flag()) for _ in range(6)], 3),
    })


def other_task(chance, task, parts):
    """The task with one of its things changed."""
    name, calls, quiet, ends, mark, down, owner = task
    marks, downs = parts["marks"], [kind for kind, _ in parts["downs"]]
    at = chance.below(len(marks))
    place = chance.below(6)
    if place == 0:
        calls[at] = (chance.one_of(marks), chance.one_of(downs + [None]))
    elif place == 1:
        quiet = [one for one in marks if chance.flag()] or marks[:1]
    elif place == 2:
        ends[at] = chance.one_of(marks)
    elif place == 3:
        mark = chance.one_of(marks)
    elif place == 4:
        down = chance.one_of(downs + [None])
    else:
        owner = chance.one_of(["asker", "none", "stays"])
    return (name, calls, quiet, ends, mark, down, owner)


def near_book(seed, parts):
    """A book that differs from the parts in one item, changed or left out, and in one wish more."""
    chance = Chance(seed)
    names = {part: [row[0] for row in parts[part]] for part in ("states", "ups", "downs", "tasks")}
    part = chance.one_of(["wishes", "answers", "tasks", "idles", "busies", "answers", "busies"])
    at = chance.below(len(parts[part]))
    row = parts[part][at]
    if part == "tasks":
        parts[part][at] = other_task(chance, row, parts)
    elif chance.flag():
        del parts[part][at]
    elif part == "wishes":
        parts[part][at] = (row[0], chance.one_of(names["states"]), row[2])
    elif part == "answers":
        parts[part][at] = row[:2] + (chance.one_of(names["states"]), chance.one_of(names["ups"] + [None]))
    elif part == "idles":
        parts[part][at] = row[:2] + (chance.one_of(parts["marks"]), chance.one_of(names["downs"] + [None]), chance.flag())
    else:
        parts[part][at] = row[:3] + (chance.one_of(parts["marks"]), chance.one_of(names["downs"] + [None]), chance.flag())
    if chance.flag():
        wish = (chance.one_of(names["states"]), chance.one_of(names["states"]), chance.one_of(names["ups"] + [None]))
        parts["wishes"].append(wish)
    return made(parts)


def waiting_parts(marks, tasks, idles):
    """The parts of a book whose caches ask, and wait until they are served: all that may go wrong is in the marks.

    The tasks are tuples (name, marks of the calls, quiet marks, ends, mark): strings of marks of one letter.
    """
    return {
        "states": [("no", ""), ("ask", "w")],
        "ups": [("want", False)],
        "downs": [("done", False)],
        "marks": list(marks),
        "wishes": [("no", "ask", "want")],
        "answers": [("ask", "done", "no", None)],
        "tasks": [(name, [(mark, None) for mark in calls], list(quiet), list(ends), mark, "done", "none")
                  for name, calls, quiet, ends, mark in tasks],
        "idles": [(mark, "want", name) for mark, name in idles],
        "busies": [],
    }


def right_by_two():
    """A book whose views of 2 close without being bad, and are fewer than those of 1, which are bad."""
    return made(waiting_parts("abcde", [("s", "bdeeb", "be", "abcdc", "d")], [("a", "s"), ("c", "s"), ("e", "s")]))


def right_by_three():
    """A book whose views of 3 close without being bad; those of 1 and of 2 are bad."""
    tasks = [("s", "bcdac", "bcde", "abcde", "c"), ("t", "abade", "abc", "ebada", "e")]
    return made(waiting_parts("abcde", tasks, [("a", "s"), ("b", "s"), ("d", "t")]))


def wrong_by_four():
    """A book in which it takes four caches to come to something wrong."""
    tasks = [("s", "abddad", "abcef", "abcdbf", "f"), ("t", "ebcdcf", "abcdef", "abfdef", "b")]
    return made(waiting_parts("abcdef", tasks, [("a", "t"), ("d", "s"), ("e", "s"), ("f", "t")]))


def wrong_by_five():
    """A book in which it takes five caches to come to something wrong."""
    tasks = [("s", "eadacb", "ade", "abcdef", "c"), ("t", "cbceaf", "abcdef", "ebcdea", "c"),
             ("u", "abcded", "abcdef", "bbadef", "c")]
    return made(waiting_parts("abcdef", tasks, [("a", "u"), ("b", "s"), ("e", "u"), ("f", "t")]))


def putting():
    """A book in which each cache may put by a wish of its own, none reads, and home does nothing."""
    return small(states=[("no", ""), ("own", "hp")], wishes=[("no", "own", None), ("own", "no", None)])


def called_twice():
    """A book in which nobody answers a call, so that a task that begins jams beside a cache called before."""
    return small(states=[("no", ""), ("ask", "w")], downs=[("done", False), ("call", False)],
                 wishes=[("no", "ask", "want")], answers=[("ask", "done", "no", None)],
                 tasks=[("take", [("out", "call")], ["out"], ["out"], "out", "done", "stays")],
                 idles=[("out", "want", "take")])


def both_become_others():
    """A right book in which an owner and an asker become others by one step, and no others are ever like both."""
    parts = waiting_parts(["out", "boss", "old", "seen"], [], [])
    calls = [("out", None), ("boss", None), ("out", None), ("out", None)]
    parts["ups"].append(("take", False))
    parts["wishes"].append(("no", "ask", "take"))
    parts["idles"] = [("out", "want", "look"), ("out", "take", "take")]
    quiet = ["out", "boss", "old", "seen"]
    parts["tasks"] = [("look", calls, quiet, ["out", "old", "old", "seen"], "seen", "done", "none"),
                      ("take", calls, quiet, ["out", "old", "old", "seen"], "boss", "done", "asker")]
    return made(parts)


def told_by_calls():
    """A right book in which each task that begins sends the memory to all others, and nobody reads it."""
    parts = waiting_parts(["out", "wait"], [], [])
    parts["states"].append(("own", "hp"))
    parts["ups"].append(("heard", False))
    parts["downs"].append(("tell", True))
    parts["wishes"] += [("no", "own", None), ("own", "no", None)]
    parts["answers"] += [(state, "tell", state, "heard") for state in ("no", "ask", "own")]
    parts["tasks"] = [("take", [("wait", "tell"), ("wait", "tell")], ["out"], ["out", "out"], "out", "done", "none")]
    parts["idles"] = [("out", "want", "take")]
    parts["busies"] = [("take", "wait", "heard", "out", None, False)]
    return made(parts)


def renamed_parts(parts, names=None):
    """The parts with other names in the same places; if none are told, in another order of the alphabet."""
    if names is None:
        met = [row if part == "marks" else row[0] for part in ("states", "ups", "downs", "marks", "tasks")
               for row in parts[part]]
        names = {name: "z" + "".join(chr(219 - ord(letter)) for letter in name)[:7] for name in met}

    def changed(value):
        if isinstance(value, (list, tuple)):
            return type(value)(changed(one) for one in value)
        return names.get(value, value) if isinstance(value, str) else value

    found = {part: changed(rows) for part, rows in parts.items()}
    # Traits and words for owners are no names.
    found["states"] = [(row[0], old[1]) for row, old in zip(found["states"], parts["states"])]
    found["tasks"] = [row[:6] + old[6:] for row, old in zip(found["tasks"], parts["tasks"])]
    return found
