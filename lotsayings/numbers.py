"""Numbers of lots, also weighted ones, and their rests."""

from lotsayings.codes import RowCodes
from lotsayings.cuts import check_number
from lotsayings.errors import OtherTracks
from lotsayings.leasts import least
from lotsayings.machines import bits_number
from lotsayings.shells import MOST_STATES, explored
from lotsayings.steps import rows_without
from lotsayings.terms import check_term
from lotsayings.verdicts import fitting_term
from lotsayings.walks import postfix

MOST_WEIGHT = 9


def check_tracks(machine):
    """OtherTracks if the machine has no track that could be counted."""
    if machine.many == 0:
        raise OtherTracks()


def both_states(machine, leaf):
    """The states of a leaf without the last track: with 0 and with 1 in it."""
    row = machine.leaves[machine.bench.starts.index(leaf[0])]
    return [row[bits_number(leaf[1] + (bit,))] for bit in (0, 1)]


def number_row(machine, term, *, inside=1, outside=1):
    """For each state the weighted number of the lots that lead the machine to it."""
    check_tracks(machine)
    check_term(machine.bench, term, machine.many - 1)
    check_number(inside, "inside", -MOST_WEIGHT, MOST_WEIGHT)
    check_number(outside, "outside", -MOST_WEIGHT, MOST_WEIGHT)
    rows = []
    for step in postfix(term):
        if isinstance(step, tuple):
            rows.append(leaf_numbers(machine, step, (outside, inside)))
        else:
            right = rows.pop()
            rows.append(joined_numbers(machine.rows[step], rows.pop(), right))
    return tuple(rows[0])


def leaf_numbers(machine, leaf, weights):
    """The number row of a leaf without the last track; weights are those with 0 and with 1 in it."""
    numbers = [0] * machine.states
    for state, weight in zip(both_states(machine, leaf), weights):
        numbers[state] += weight
    return numbers


def joined_numbers(table, left, right):
    """The number row of a join of two number rows."""
    numbers = [0] * len(table)
    known = [(q, many) for q, many in enumerate(right) if many]
    for p, number in enumerate(left):
        if number:
            row = table[p]
            for q, many in known:
                numbers[row[q]] += number * many
    return numbers


def number_of(machine, term, *, inside=1, outside=1):
    """The weighted number of the lots that fit."""
    row = number_row(machine, term, inside=inside, outside=outside)
    return sum([row[state] for state in machine.accepted])


def rests_of(machine, d):
    """The rests by d that the number of fitting lots leaves at some term, ascending."""
    check_tracks(machine)
    check_number(d, "d", 2, 6)
    whole = least(machine)
    rows = explored(RowCodes(whole, whole.many - 1, d), MOST_STATES, "rows")[0]
    return tuple(sorted(set([sum([row[state] for state in whole.accepted]) % d for row in rows])))


def rest_term(machine, rest, d):
    """A term of the fewest places at which the number of fitting lots leaves the rest by d, None if there is none."""
    check_tracks(machine)
    check_number(d, "d", 2, 6)
    check_number(rest, "rest", 0, d - 1)
    return fitting_term(rows_without(machine, machine.many - 1, rest, d))
