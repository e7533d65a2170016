"""Bases: the exact decision for all numbers of caches, by the list of the least harmful bags."""

from copybooks.checks import check_most
from copybooks.controls import Controls
from copybooks.fitting import Fitting
from copybooks.forms import check_bag
from copybooks.harmful import Harmful


class Ground:
    """What decides on the moments of a book: which ones fit, and which of these are harmful."""

    def __init__(self, book, most):
        self._controls = Controls(book)
        self._fitting = Fitting(self._controls, most)
        self._harmful = Harmful(self._controls, self._fitting, most)

    def base(self):
        """The list of all least harmful bags."""
        return [self._controls.told(control, others) for control, others in self._harmful.rows()]

    def first_numbers(self):
        """For each least bag that first moments contain, how many others it has."""
        begin, (number,) = self._controls.first_view(1)
        return [
            len(others) for control, others in self._harmful.rows()
            if control == begin and all([one == number for one in others])
        ]

    def greatest(self):
        """The greatest number of others of a least bag; 0 if there is none."""
        return max([len(others) for _, others in self._harmful.rows()] + [0])

    def moment_verdict(self, home, rows):
        """The verdict on a moment, told by its home and its locals."""
        return self._verdict(self._controls.read_moment(home, rows))

    def bag_verdict(self, bag):
        """The verdict on the moment of a bag."""
        return self._verdict(self._controls.read(bag))

    def _verdict(self, moment):
        control, others = moment
        if not self._fitting.fits(control, others):
            return "unfit"
        return "harmful" if self._harmful.holds(control, others) else "harmless"


def base(book, *, most=2000):
    """The list of all least harmful bags."""
    check_most(most)
    return Ground(book, most).base()


def cutoff(book, *, most=2000):
    """The least number of caches of a first moment that is harmful; None if the book is right."""
    check_most(most)
    return min(Ground(book, most).first_numbers(), default=None)


def greatest(book, *, most=2000):
    """The greatest number of others of a least harmful bag."""
    check_most(most)
    return Ground(book, most).greatest()


def verdict(moment, *, most=2000):
    """Whether the moment is "unfit", "harmful" or "harmless"."""
    check_most(most)
    return Ground(moment.book(), most).moment_verdict(moment.home(), moment.caches())


def bag_verdict(book, bag, *, most=2000):
    """Whether the moment of the bag is "unfit", "harmful" or "harmless"."""
    check_bag(book, bag)
    check_most(most)
    return Ground(book, most).bag_verdict(bag)


def family_cutoff(family, *, most=2000):
    """The least number of caches that is enough to try, for each book of the family that is not right."""
    check_most(most)
    found = [cutoff(family.book(pick), most=most) for pick in family.picks()]
    return max([0] + [n for n in found if n is not None])
