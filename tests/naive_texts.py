"""The forms of texts written a second time, by regular expressions."""

import re

NAME = "([a-z]{1,8})"
MAYBE = "([a-z]{1,8}|-)"
FLAG = "(yes|no)"

LINES = {
    "state": [NAME, MAYBE], "up": [NAME, FLAG], "down": [NAME, FLAG], "mark": [NAME], "wish": [NAME, NAME, MAYBE],
    "answer": [NAME, NAME, NAME, MAYBE], "task": [NAME, NAME, MAYBE, NAME], "begin": [NAME] * 3,
    "note": [NAME, NAME, NAME, MAYBE, FLAG], "busy": [NAME] * 4 + [MAYBE, FLAG], "  call": [NAME, NAME, MAYBE],
    "  end": [NAME, NAME],
}

ORDER = [["state"], ["up"], ["down"], ["mark"], ["wish"], ["answer"], ["task"], ["begin", "note"], ["busy"]]


def words_of(line, head):
    """The words behind the head, or None if the line is none of this head."""
    found = re.fullmatch(" ".join([head] + LINES[head]), line, re.ASCII)
    return None if found is None else found.groups()


def wrong_line(text):
    """The index of the first wrong line, the number of lines if the text ends within a task, or None."""
    lines, marks, place, at = text.split("\n"), [], 0, 0
    while at < len(lines):
        heads = [(rank, head) for rank, row in enumerate(ORDER) for head in row
                 if rank >= place and words_of(lines[at], head) is not None]
        if not heads:
            return at
        place, head = heads[0]
        if head == "mark":
            marks.append(words_of(lines[at], head)[0])
        at += 1
        if head == "task":
            rows = [("  call", mark) for mark in marks] + [("  end", mark) for mark in marks]
            for kind, mark in rows:
                if at == len(lines) or words_of(lines[at], kind) is None or words_of(lines[at], kind)[0] != mark:
                    return at
                at += 1
            if at == len(lines) or not re.fullmatch("  quiet( [a-z]{1,8})+", lines[at], re.ASCII):
                return at
            at += 1
    return None


STEPS = ["wish [0-5] (?:[0-9]|1[0-9]|2[0-9])", "(?:answer|take) [0-5] [a-z]{1,8}", "put [0-5]", "end"]


def wrong_step(text):
    """The index of the first line that is not the line of a step, or None."""
    for at, line in enumerate(text.split("\n") if text else []):
        if not any(re.fullmatch(form, line, re.ASCII) for form in STEPS):
            return at
    return None
