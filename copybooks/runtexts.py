"""Runs as texts, and texts as runs."""

from copybooks.checks import MOST_INDEX, is_step
from copybooks.errors import NoRun, NoText


def run_text(run):
    """The text of a run."""
    if not isinstance(run, list):
        raise NoRun(-1)
    for index, step in enumerate(run):
        if not is_step(step):
            raise NoRun(index)
    return "\n".join([" ".join([str(part) for part in step]) for step in run])


def read_run(text):
    """The run whose text it is."""
    if not isinstance(text, str):
        raise NoText(-1)
    if text == "":
        return []
    # So great a number as no step has is no number here, however many digits it has.
    numbers = {str(number): number for number in range(MOST_INDEX + 1)}
    run = []
    for index, line in enumerate(text.split("\n")):
        words = line.split(" ")
        step = tuple([words[0]] + [numbers.get(word, word) for word in words[1:]])
        if not is_step(step):
            raise NoText(index)
        run.append(step)
    return run
