"""Views: what any number of caches can come to, seen by few of them at a time."""

from copybooks.checks import check_most, check_views
from copybooks.closing import Closing
from copybooks.controls import Controls


def views(book, k, *, most=3000):
    """("closed", the least closed list of views of k), or ("wrong", kind, view) if it is bad."""
    check_views(k)
    check_most(most)
    controls = Controls(book)
    closing = Closing(controls, k, most)
    wrong = closing.wrong()
    if wrong is not None:
        kind, control, others = wrong
        return ("wrong", kind, controls.told(control, others))
    return ("closed", [controls.told(control, others) for control, others in closing.rows()])
