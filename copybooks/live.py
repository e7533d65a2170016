"""Live worlds: led step by step, taken back, and tried."""

from copybooks.checks import is_integer
from copybooks.errors import NoBack, NoIndex, NoRest
from copybooks.moments import first
from copybooks.resting import can_rest


class Live:
    """A world of n caches that is led from its first moment on."""

    def __init__(self, book, n):
        # The moments behind no step, one step, and so on.
        self._moments = [first(book, n)]
        self._steps = []

    def moment(self):
        """The moment of now."""
        return self._moments[-1]

    def step(self, step):
        """Takes a step."""
        self._moments.append(self.moment().after(step))
        self._steps.append(step)

    def back(self):
        """Takes the last step back."""
        if not self._steps:
            raise NoBack()
        self._moments.pop()
        self._steps.pop()

    def wrongs(self):
        """The list of all that is wrong now."""
        return self.moment().wrongs()

    def rest(self, i):
        """Leads cache i to rest, and returns the list of the steps that it takes."""
        run = can_rest(self.moment(), i)
        if run is None:
            raise NoRest()
        for step in run:
            self.step(step)
        return run

    def tried(self, action):
        """What the action returns that is called with this world; then all is put back to what it was."""
        moments, steps = self._moments, self._steps
        # The action changes lists of its own, so that loops over the steps around it go on undisturbed.
        self._moments, self._steps = list(moments), list(steps)
        try:
            return action(self)
        finally:
            self._moments, self._steps = moments, steps

    def __len__(self):
        return len(self._steps)

    def __getitem__(self, index):
        if not is_integer(index, 0, len(self._steps) - 1):
            raise NoIndex()
        return self._steps[index]

    def __iter__(self):
        return iter(self._steps)
