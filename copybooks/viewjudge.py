"""The judge of lists of views."""

from copybooks.checks import check_views
from copybooks.controls import Controls
from copybooks.forms import Forms
from copybooks.papers import Paper


def closed_fault(book, k, thing):
    """The first fault of a list of views of k that should be closed and not bad; or None."""
    check_views(k)
    if not Forms(book).are_views(thing, k):
        return ("form",)
    controls = Controls(book)
    rows = [controls.read(view) for view in thing]
    if not all([controls.first_view(many) in rows for many in range(k + 1)]):
        return ("first",)
    paper = Paper(controls, k, rows)
    for index, (control, others) in enumerate(rows):
        word = paper.fault(control, others)
        if word is not None:
            return (word, index)
    return None
