"""What comes again if one state is joined again and again."""

from math import lcm

from lotsayings.cuts import check_number
from lotsayings.errors import NotWeb
from lotsayings.forms import check_on_trees
from lotsayings.founds import first_terms
from lotsayings.hanging import is_web_machine
from lotsayings.leasts import apart, least
from lotsayings.quotients import columns_of

MOST_RING = 60


def check_web(machine):
    """NotOnTrees, then NotWeb unless the machine is a web machine on Bench.trees()."""
    check_on_trees(machine)
    if not is_web_machine(machine):
        raise NotWeb()


def check_join(machine, join):
    """BadNumber unless join is the number of a join of the machine's bench."""
    check_number(join, "join", 0, len(machine.rows) - 1)


def walks_of(goals):
    """For each state p the pair (run-in, ring) of p, goals[p], goals[goals[p]], .."""
    found = [None] * len(goals)
    for start in range(len(goals)):
        path = []
        met = {}
        state = start
        while found[state] is None and state not in met:
            met[state] = len(path)
            path.append(state)
            state = goals[state]
        if found[state] is None:
            circle = path[met[state]:]
            path = path[:met[state]]
            for x in circle:
                found[x] = (0, len(circle))
        for x in path[::-1]:
            run, steps = found[goals[x]]
            found[x] = (run + 1, steps)
    return found


def all_walks(table):
    """For each state q the walks that join q again and again."""
    return [walks_of(goals) for goals in columns_of(table)]


def steps_of(machine, p, q, *, join=0):
    """The run-in and the ring of two of the machine's own states by a join."""
    check_number(p, "p", 0, machine.states - 1)
    check_number(q, "q", 0, machine.states - 1)
    check_join(machine, join)
    return walks_of([row[q] for row in machine.rows[join]])[p]


def run_in(machine, *, join=0):
    """The greatest run-in of states of the least machine."""
    check_join(machine, join)
    return max([walk[0] for walks in all_walks(least(machine).rows[join]) for walk in walks])


def ring(machine, *, join=0):
    """The least common multiple of all rings of states of the least machine."""
    check_join(machine, join)
    whole = 1
    for walks in all_walks(least(machine).rows[join]):
        for walk in walks:
            whole = lcm(whole, walk[1])
    return whole


def counts_told(machine, d):
    """Whether the machine is a web machine and its rings by all joins divide d."""
    alike = is_web_machine(machine)
    check_number(d, "d", 1, MOST_RING)
    return alike and all([d % ring(machine, join=j) == 0 for j in range(len(machine.rows))])


def ring_witness(machine, d):
    """None if the ring divides d, else terms t and u, a context, and numbers n and l that show it."""
    check_web(machine)
    check_number(d, "d", 1, MOST_RING)
    whole = least(machine)
    table = whole.rows[0]
    for q, walks in enumerate(all_walks(table)):
        for p, walk in enumerate(walks):
            if d % walk[1]:
                one = hung_state(table, p, q, walk[0])
                two = hung_state(table, one, q, d)
                terms = first_terms(whole)
                return terms[p], terms[q], apart(whole, one, two), walk[0], walk[1]
    return None


def hung_state(table, p, q, times):
    """The state p with q hung so often."""
    for _ in range(times):
        p = table[p][q]
    return p
