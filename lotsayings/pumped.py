"""Terms in which a context stands again and again."""

from lotsayings.cuts import check_number
from lotsayings.machines import state_by
from lotsayings.terms import check_term, size_of
from lotsayings.walks import steps_around

MOST_TIMES = 1000000000


def map_of(machine, context):
    """For each state of the machine the state of the context with its hole counted as this state."""
    check_term(machine.bench, context, machine.many, hole=True)
    states = list(range(machine.states))
    for j, side, term in steps_around(context):
        other = state_by(machine, term, None)
        table = machine.rows[j]
        states = [table[other][state] if side else table[state][other] for state in states]
    return tuple(states)


def repeated(goals, state, times):
    """The state to which goals lead from a state in so many steps."""
    met = {}
    path = []
    while state not in met and len(path) < times:
        met[state] = len(path)
        path.append(state)
        state = goals[state]
    if len(path) == times:
        return state
    start = met[state]
    return path[start + (times - start) % (len(path) - start)]


def pumped_state(machine, outer, inner, times, term):
    """The state of the term that has the inner context so often around a term, and the outer one around them."""
    check_term(machine.bench, outer, machine.many, hole=True)
    check_term(machine.bench, inner, machine.many, hole=True)
    check_number(times, "times", 0, MOST_TIMES)
    check_term(machine.bench, term, machine.many)
    state = repeated(map_of(machine, inner), state_by(machine, term, None), times)
    return state_by(machine, outer, state)


def pumped_size(outer, inner, times, term):
    """The size of that term."""
    check_number(times, "times", 0, MOST_TIMES)
    return size_of(outer) + times * size_of(inner) + size_of(term)
