"""Least machines, and contexts that tell states apart."""

from lotsayings.cuts import check_number
from lotsayings.founds import Fewest, context_of, step_to
from lotsayings.machines import Machine, found_states, leaf_rows, least_of
from lotsayings.quotients import columns_of, finer_kinds, numbered, refined


def least(machine):
    """The least machine."""
    return least_of(machine)


def in_order(machine):
    """The machine of the reached states, numbered in the order of finding."""
    codes, row, tables = found_states(machine)
    accepted = [number for number, state in enumerate(codes) if state in machine.accepted]
    return Machine(machine.bench, machine.many, leaf_rows(row, machine.many), tables, tuple(accepted))


def groups(machine):
    """For each state its number in the least machine, None for a state that is not reached."""
    codes, _, tables = found_states(machine)
    kinds = refined(tables, [state in machine.accepted for state in codes])
    numbers = [None] * machine.states
    for state, kind in zip(codes, kinds):
        numbers[state] = kind
    return tuple(numbers)


def apart(machine, p, q):
    """A context that tells the states apart, None if there is none; they need not be reached."""
    check_number(p, "state", 0, machine.states - 1)
    check_number(q, "state", 0, machine.states - 1)
    fewest = Fewest(machine)
    rounds = rounds_till(machine, fewest.settled, p, q)
    if rounds[-1][p] == rounds[-1][q]:
        return None
    row = []
    for kinds in rounds[-2::-1]:
        step = step_apart(machine, fewest.settled, (p, q), kinds)
        row.append(step)
        p = step_to(machine, p, step)
        q = step_to(machine, q, step)
    return context_of(row, fewest.found)


def rounds_till(machine, known, p, q):
    """Kinds of states: those by acceptance, then ever finer ones, each by one step with a reached state more.

    The last ones are the first that part p from q, or those of which finer ones would be the same.
    """
    sides = sides_with(machine, known)
    kinds = numbered([state in machine.accepted for state in range(machine.states)])
    rounds = [kinds]
    while kinds[p] == kinds[q]:
        finer = finer_kinds(sides, kinds)
        if finer == kinds:
            return rounds
        rounds.append(finer)
        kinds = finer
    return rounds


def sides_with(machine, known):
    """The tables of all joins with a known state on the right, then with a known state on the left."""
    ahead = [[[row[other] for other in known] for row in table] for table in machine.rows]
    behind = [columns_of([table[other] for other in known]) for table in machine.rows]
    return ahead + behind


def step_apart(machine, known, pair, kinds):
    """The step with the fewest places that brings the two states of a pair to unlike kinds."""
    p, q = pair
    for other in known:
        for j in range(len(machine.rows)):
            for side in range(2):
                step = (j, side, other)
                if kinds[step_to(machine, p, step)] != kinds[step_to(machine, q, step)]:
                    return step
    return None
