"""Prices at states: the greatest gains of fitting terms."""

from lotsayings.cuts import check_number, is_between
from lotsayings.errors import BadNumber
from lotsayings.gains import Dearest, Gains, leaf_counts
from lotsayings.leasts import least
from lotsayings.spans import dot
from lotsayings.walks import leaves_of

MOST_GAIN = 9
MOST_NUMBERS = 6


def check_form(form, low, high):
    """BadNumber unless the form is a tuple or list of so many integers from -9 to 9."""
    if not isinstance(form, (list, tuple)) or not low <= len(form) <= high:
        raise BadNumber("form")
    if not all([is_between(number, -MOST_GAIN, MOST_GAIN) for number in form]):
        raise BadNumber("form")


def gain(term, form):
    """The gain of a term or a context."""
    check_form(form, 1, MOST_NUMBERS)
    return sum([dot(leaf_counts(leaf), form) for leaf in leaves_of(term)])


class Prices:
    """The least prices that pay for a form, or a loop that gains."""

    def __init__(self, machine, form):
        check_form(form, machine.many + 1, machine.many + 1)
        self.machine = least(machine)
        self.form = tuple(form)
        gains = Gains(self.machine, self.form)
        self._loop = None
        self._prices = None
        self._bound = None
        self._top = None
        if gains.looping is not None:
            self._loop = gains.looping[:2]
        else:
            self._prices = tuple([gains.worths.get(state) for state in range(self.machine.states)])
            if self.machine.accepted:
                dearest = Dearest(gains)
                ways = [(-gains.worths[state], dearest.sizes[state], state) for state in self.machine.accepted]
                self._bound = -min(ways)[0]
                self._top = dearest.found[min(ways)[2]]

    @property
    def bounded(self):
        """Whether the gains of the fitting terms stay below some number."""
        return self._loop is None

    @property
    def bound(self):
        """The greatest gain of a fitting term, None if there is none."""
        return self._bound

    @property
    def top(self):
        """A fitting term of the greatest gain, None if there is none."""
        return self._top

    @property
    def prices(self):
        """For each state the greatest gain of its terms, None if it is not useful; None if a loop gains."""
        return self._prices

    @property
    def loop(self):
        """A loop that gains, a pair of a context and a state; None if there is none."""
        return self._loop


def at_most(machine, track, other):
    """The greatest number of places that one track has more than another one at a fitting term, None without one."""
    check_number(track, "track", 0, machine.many - 1)
    check_number(other, "other", 0, machine.many - 1)
    form = [0] * (machine.many + 1)
    form[track] += 1
    form[other] -= 1
    return Prices(machine, form).bound
