"""Linear relations between the numbers of fitting lots of several machines."""

from lotsayings.cuts import are_integers, check_number
from lotsayings.errors import BadNumber, OtherBench, OtherTracks, TooMany
from lotsayings.fractions import kernel, solved
from lotsayings.leasts import least
from lotsayings.numbers import MOST_WEIGHT, number_of
from lotsayings.spans import Rows, Span, dot, lessened, units

MOST_MACHINES = 6
MOST_STATES = 60


def check_machines(machines):
    """BadNumber, OtherBench, OtherTracks unless these are one to six machines of one bench, with as many tracks."""
    if not isinstance(machines, (list, tuple)) or not 1 <= len(machines) <= MOST_MACHINES:
        raise BadNumber("machines")
    for machine in machines:
        if machine.bench != machines[0].bench:
            raise OtherBench()
    for machine in machines:
        if machine.many == 0 or machine.many != machines[0].many:
            raise OtherTracks()


class Relations:
    """The relations of the weighted numbers of machines, and terms that tell them."""

    def __init__(self, machines, *, inside=1, outside=1):
        check_machines(machines)
        wholes = [least(machine) for machine in machines]
        if sum([len(machine) for machine in wholes]) > MOST_STATES:
            raise TooMany("states")
        check_number(inside, "inside", -MOST_WEIGHT, MOST_WEIGHT)
        check_number(outside, "outside", -MOST_WEIGHT, MOST_WEIGHT)
        self.machines = tuple(machines)
        self._weights = (outside, inside)
        self._terms = ()
        self._rows = ()
        rest = units(len(wholes))
        algebra = Rows(wholes, self._weights)
        for _, term, row in Span(algebra).found:
            told = algebra.numbers_at(row)
            less = lessened(rest, told)
            if less is not None:
                rest = less
                self._terms += (term,)
                self._rows += (told,)
        self._base = kernel(self._rows, len(wholes))

    @property
    def terms(self):
        """The told terms."""
        return self._terms

    @property
    def rank(self):
        """How many terms are told."""
        return len(self._terms)

    @property
    def told_rows(self):
        """The rows of the told terms."""
        return self._rows

    @property
    def base(self):
        """The rows of integers of which all relations are combinations."""
        return self._base

    def row_of(self, term):
        """The weighted numbers of the machines at a term."""
        outside, inside = self._weights
        return tuple([number_of(machine, term, inside=inside, outside=outside) for machine in self.machines])

    def holds(self, numbers):
        """Whether the integers are a relation."""
        return self.broken_at(numbers) is None

    def broken_at(self, numbers):
        """A told term at which the sum with these integers is not 0, None for a relation."""
        if not are_integers(numbers, len(self.machines)):
            raise BadNumber("numbers")
        for term, row in zip(self._terms, self._rows):
            if dot(row, numbers) != 0:
                return term
        return None

    def share_of(self, term):
        """The fraction row by which the row of a term is a combination of the told rows."""
        return solved(self._rows, self.row_of(term))


def as_many(machine, other):
    """None if as many lots fit both machines at all terms, else a term at which the numbers differ."""
    return Relations((machine, other)).broken_at((1, -1))
