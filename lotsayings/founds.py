"""Terms for states, and contexts to accepted states, with the fewest places."""

from lotsayings.cuts import check_number
from lotsayings.machines import bits_of, found_states
from lotsayings.walks import context_around


class Fewest:
    """For each state of a machine the fewest places of a term of this state, and such a term.

    The states are settled in the order of their sizes: what a settled state makes with another one is never less
    than the two, so the least size that is known and not settled can not be bettered.
    """

    def __init__(self, machine):
        self.machine = machine
        self.sizes = [None] * machine.states
        self.found = [None] * machine.states
        self.origins = [None] * machine.states
        self.settled = []
        for label, row in zip(machine.bench.starts, machine.leaves):
            for number, state in enumerate(row):
                self.offer(state, 1, (label, bits_of(number, machine.many)))
        waiting = self.waiting()
        while waiting:
            self.settle(min(waiting)[1])
            waiting = self.waiting()

    def offer(self, state, size, way):
        """Keeps a way to a state, a leaf or a triple of a join and two states, if its size is less."""
        if self.sizes[state] is None or size < self.sizes[state]:
            self.sizes[state] = size
            self.origins[state] = way

    def waiting(self):
        """The pairs of sizes and states that are known and not settled."""
        known = [state for state, size in enumerate(self.sizes) if size is not None]
        return [(self.sizes[state], state) for state in known if self.found[state] is None]

    def settle(self, state):
        """Makes the term of a state, and offers what the state makes with each settled one."""
        way = self.origins[state]
        self.found[state] = way if len(way) == 2 else (way[0], self.found[way[1]], self.found[way[2]])
        self.settled.append(state)
        for j, table in enumerate(self.machine.rows):
            for other in self.settled:
                size = self.sizes[state] + self.sizes[other]
                self.offer(table[state][other], size, (j, state, other))
                self.offer(table[other][state], size, (j, other, state))


def first_terms(machine):
    """A term of the fewest places for each state, None for a state that is not reached."""
    return tuple(Fewest(machine).found)


def reached(machine):
    """The states that some term has, ascending."""
    return tuple(sorted(found_states(machine)[0]))


def useful(machine):
    """The reached states that some context brings to an accepted one, ascending."""
    steps = ways_out(machine, Fewest(machine))[1]
    return tuple([state for state in reached(machine) if state in steps])


def way_out(machine, state):
    """A context with the fewest places that brings the state to an accepted one, None if there is none."""
    check_number(state, "state", 0, machine.states - 1)
    fewest = Fewest(machine)
    if fewest.found[state] is None:
        return None
    steps = ways_out(machine, fewest)[1]
    if state not in steps:
        return None
    row = []
    while steps[state] is not None:
        step = steps[state]
        row.append(step)
        state = step_to(machine, state, step)
    return context_of(row, fewest.found)


def ways_out(machine, fewest):
    """Two dicts for the states that can be brought to an accepted one: the fewest places, and the first step."""
    costs = {state: 0 for state in machine.accepted}
    steps = {state: None for state in machine.accepted}
    ways = ways_into(machine, fewest)
    waiting = list(machine.accepted)
    while waiting:
        near = min([(costs[state], state) for state in waiting])[1]
        waiting.remove(near)
        for state, step in ways[near].items():
            cost = costs[near] + fewest.sizes[step[2]]
            if state not in costs or cost < costs[state]:
                if state not in costs:
                    waiting.append(state)
                costs[state] = cost
                steps[state] = step
    return costs, steps


def ways_into(machine, fewest):
    """For each state a dict from the reached states that one step brings to it to the step of the fewest places.

    A step is a triple (j, side, q): a join with a term of the state q on the right (side 0) or left (side 1).
    """
    ways = [{} for _ in range(machine.states)]
    known = fewest.settled
    for q in known:
        for j, table in enumerate(machine.rows):
            for p in known:
                ways[table[p][q]].setdefault(p, (j, 0, q))
                ways[table[q][p]].setdefault(p, (j, 1, q))
    return ways


def step_to(machine, state, step):
    """The state to which a step brings a state."""
    j, side, other = step
    return machine.rows[j][other][state] if side else machine.rows[j][state][other]


def context_of(row, terms):
    """The context of a row of steps, the first one around the hole; terms has one for each state."""
    return context_around([(j, side, terms[other]) for j, side, other in row])
