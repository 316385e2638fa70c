"""Gathers: the sets of states that trees can not be kept from with counts by d."""

from math import gcd

from lotsayings.cuts import check_number, is_int
from lotsayings.errors import BadNumber, NotWeb, TooMany
from lotsayings.forms import check_on_trees
from lotsayings.hanging import unlike_exchange
from lotsayings.leasts import in_order
from lotsayings.lots import lot_of_mask, mask_of

MOST_SETS = 300
MOST_COUNTS = 6


class Gather:
    """The least collection of sets of states that holds those of leaves, P.C and MANY(P, C, i) with P and C."""

    def __init__(self, machine, d):
        check_on_trees(machine)
        if unlike_exchange(in_order(machine).rows[0]) is not None:
            raise NotWeb()
        check_number(d, "d", 1, MOST_COUNTS)
        self.machine = machine
        self.d = d
        self.origins = Gathering(machine, d).all_origins()
        self.sets = tuple(sorted(self.origins))

    @property
    def number(self):
        """The number of sets."""
        return len(self.sets)

    def __len__(self):
        return len(self.sets)

    def __iter__(self):
        return iter(self.sets)

    def __contains__(self, value):
        return is_states(value) and value in self.origins

    def one(self, base, kind):
        """The set P.C."""
        self.check_set(base)
        self.check_set(kind)
        return hung_set(self.machine.rows[0], base, kind)

    def some_of(self, base, kind, rest):
        """The set MANY(P, C, i)."""
        self.check_set(base)
        self.check_set(kind)
        check_number(rest, "rest", 0, self.d - 1)
        table = self.machine.rows[0]
        met = {}
        row = []
        while base not in met:
            met[base] = len(row)
            row.append(base)
            base = hung_set(table, base, kind)
        return many_of_walk(row, met[base], rest, self.d)

    def made(self, states):
        """How the set is made: of a leaf, by P.C, or by MANY(P, C, i)."""
        self.check_set(states)
        return self.origins[states]

    def meets(self, first, second):
        """The least set that holds a state of both tuples, None if there is none."""
        for states in self.sets:
            if any([x in first for x in states]) and any([x in second for x in states]):
                return states
        return None

    def check_set(self, value):
        """BadNumber unless value is a set of the gather."""
        if not is_states(value) or value not in self.origins:
            raise BadNumber("set")


def is_states(value):
    """Whether value is a tuple of integers."""
    return isinstance(value, tuple) and all([is_int(x) for x in value])


def hung_set(table, base, kind):
    """All states p.c with p in base and c in kind."""
    found = {table[p][c]: True for p in base for c in kind}
    return tuple(sorted(found))


def many_of_walk(row, first, rest, d):
    """The set MANY, where row[n] is P with C hung n times, and what comes behind the row is as from first on again.

    Of the numbers n beyond each bound with the rest by d those reach a place in the circle that leave the rest by
    what the length of the circle and d have in common.
    """
    alike = gcd(len(row) - first, d)
    found = {x: True for n in range(first, len(row)) if (n - rest) % alike == 0 for x in row[n]}
    return tuple(sorted(found))


class Gathering:
    """Finds the sets of a gather; a set has the digit of 2^x in its number for each state x in it.

    For each found set, found tells how it is made of sets that were found ahead of it. For each set that is hung,
    goals tells what hanging it once makes of each set; settled holds the sets that lead to a known circle of goals.
    """

    def __init__(self, machine, d):
        self.products = machine.rows[0]
        self.d = d
        self.found = {}
        self.order = []
        self.states_of = []
        self.goals = []
        self.settled = []
        for k, state in enumerate(machine.leaves[0]):
            self.note(1 << state, ("leaf", k))
        done = 0
        while done < len(self.order):
            done = len(self.order)
            for kind in range(done):
                self.hang(kind)

    def note(self, number, origin):
        """Keeps a set and how it is made, if it is a new one."""
        if number in self.found:
            return
        self.found[number] = origin
        self.order.append(number)
        self.states_of.append(lot_of_mask(number, len(self.products)))
        self.goals.append({})
        self.settled.append({})
        if len(self.order) > MOST_SETS:
            raise TooMany("sets")

    def hang(self, kind):
        """Hangs the set with index kind on each set for which this was not done, once and many times."""
        goals = self.goals[kind]
        first = len(goals)
        if first == len(self.order):
            return
        states = self.states_of[kind]
        single = [mask_of([row[c] for c in states]) for row in self.products]
        at = first
        while at < len(self.order):
            goal = 0
            for p in self.states_of[at]:
                goal |= single[p]
            goals[self.order[at]] = goal
            self.note(goal, ("one", self.order[at], self.order[kind]))
            at += 1
        fresh = self.order[first:at]
        for base in fresh:
            self.hang_many(base, kind)

    def hang_many(self, base, kind):
        """Finds the circle to which hanging leads from the base, and keeps its unions if it is a new one."""
        goals = self.goals[kind]
        settled = self.settled[kind]
        path = []
        met = {}
        while base not in settled and base not in met:
            met[base] = len(path)
            path.append(base)
            base = goals[base]
        if base not in settled:
            circle = path[met[base]:]
            alike = gcd(len(circle), self.d)
            for rest in range(alike):
                union = 0
                for part in circle[rest::alike]:
                    union |= part
                self.note(union, ("many", circle[0], self.order[kind], rest))
        for part in path:
            settled[part] = True

    def all_origins(self):
        """A dict from each set to how it is made, all sets as tuples."""
        sets = {number: states for number, states in zip(self.order, self.states_of)}
        told = {}
        for number, origin in self.found.items():
            if origin[0] != "leaf":
                origin = (origin[0], sets[origin[1]], sets[origin[2]]) + origin[3:]
            told[sets[number]] = origin
        return told
