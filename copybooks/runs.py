"""Shortest runs from one world to another, layer by layer."""

from copybooks.errors import TooMany


def shortest_run(start, moves_of, key_of, is_goal, most):
    """A shortest run from the start, itself no goal, to a world that is a goal; or None.

    The moves of a world are the list of (step, world behind it); worlds with equal keys are gone through once.
    Raises TooMany if fewer steps than the answer has lead to more than so many keys.
    """
    rows = [(start, None, None)]
    met = {key_of(start): True}
    begin = 0
    while begin < len(rows):
        # The bound is looked at between layers only: it counts what takes fewer steps than the answer.
        if len(rows) > most:
            raise TooMany(most)
        end = len(rows)
        for at in range(begin, end):
            world = rows[at][0]
            for step, behind in moves_of(world):
                key = key_of(behind)
                if key in met:
                    continue
                met[key] = True
                rows.append((behind, at, step))
                if is_goal(behind):
                    return run_to(rows, len(rows) - 1)
        begin = end
    return None


def run_to(rows, at):
    """The steps that lead to the row, each row being (world, index of the row ahead of it, step)."""
    run = []
    while rows[at][1] is not None:
        run.append(rows[at][2])
        at = rows[at][1]
    return run[::-1]


def itself(world):
    """The key that tells all worlds from one another, those that are alike, too."""
    return world
