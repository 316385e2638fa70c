"""The rank of a machine: how many contexts and terms tell all numbers of fitting lots."""

from lotsayings.cuts import are_integers
from lotsayings.errors import BadNumber
from lotsayings.fractions import kernel, solved
from lotsayings.leasts import least
from lotsayings.numbers import check_tracks
from lotsayings.quotients import columns_of
from lotsayings.spans import Rows, Span, Views, dot, lessened, units
from lotsayings.terms import check_term
from lotsayings.walks import steps_around


class Rank:
    """Contexts and terms, as many as can be, for which the table of the numbers has a determinant that is not 0."""

    def __init__(self, machine):
        check_tracks(machine)
        self.machine = machine
        span = Span(Rows([least(machine)], (1, 1)))
        views = Views(span)
        rest = [view for _, _, view in views.found]
        columns = []
        self._terms = ()
        for _, term, row in span.found:
            less = lessened(rest, row)
            if less is not None:
                rest = less
                self._terms += (term,)
                columns.append(views.numbers_at(row))
        self._contexts = tuple(views.told_contexts())
        self._table = columns_of(columns)

    @property
    def rank(self):
        """The rank."""
        return len(self._terms)

    @property
    def contexts(self):
        """The contexts of the table."""
        return self._contexts

    @property
    def terms(self):
        """The terms of the table."""
        return self._terms

    @property
    def table(self):
        """The numbers of all terms in each context."""
        return self._table

    def told_by(self, rows):
        """The fraction row by which the columns of the table make a column of integers, one for each context."""
        if not are_integers(rows, len(self._terms)):
            raise BadNumber("rows")
        return solved(columns_of(self._table), rows)


def turns_of(machine, context, term):
    """The shortest row of integers with which the numbers of the context put in again and again make 0."""
    check_tracks(machine)
    check_term(machine.bench, context, machine.many - 1, hole=True)
    check_term(machine.bench, term, machine.many - 1)
    algebra = Rows([least(machine)], (1, 1))
    views = Views(Span(algebra))
    steps = [(j, side, algebra.of_term(part)) for j, side, part in steps_around(context)]
    row = algebra.of_term(term)
    rest = units(len(views.found))
    told = []
    while rest is not None:
        told.append(views.numbers_at(row))
        rest = lessened(rest, told[-1])
        for j, side, part in steps:
            row = algebra.joined(j, part, row) if side else algebra.joined(j, row, part)
    return kernel(columns_of(told), len(told))[0]
