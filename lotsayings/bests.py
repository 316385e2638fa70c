"""Fitting lots of the greatest weight."""

from lotsayings.cuts import are_integers
from lotsayings.errors import BadNumber
from lotsayings.numbers import both_states, check_tracks
from lotsayings.terms import check_term, size_of
from lotsayings.walks import numbered_parts
from lotsayings.webs import lot_of


class Heights:
    """For each part of a term and each state the greatest weight of a lot that leads to it, and how many have it.

    nodes tells the parts as numbered_parts does, for leaves with the number of the place instead of None twice;
    found has for each of them a dict from states to pairs of a weight and a number of lots.
    """

    def __init__(self, machine, term, weights):
        check_tracks(machine)
        check_term(machine.bench, term, machine.many - 1)
        if not are_integers(weights, size_of(term)):
            raise BadNumber("weights")
        self.machine = machine
        self.weights = weights
        self.nodes = []
        self.found = []
        places = 0
        for step, left, right in numbered_parts(term):
            if left is None:
                self.nodes.append((step, places, None))
                self.found.append(united(self.leaf_ways(step, places)))
                places += 1
            else:
                self.nodes.append((step, left, right))
                self.found.append(united(self.join_ways(step, self.found[left], self.found[right])))

    def leaf_ways(self, leaf, place):
        """The states of the leaf of a place, each with its weight and 1."""
        return [(state, weight, 1) for state, weight in zip(both_states(self.machine, leaf), (0, self.weights[place]))]

    def join_ways(self, j, left, right):
        """The states of a join, each with a weight and a number of lots that have it."""
        table = self.machine.rows[j]
        ways = []
        for p, one in left.items():
            row = table[p]
            ways.extend([(row[q], one[0] + two[0], one[1] * two[1]) for q, two in right.items()])
        return ways

    def best_state(self):
        """The accepted state with the greatest weight of a lot, None if no lot fits."""
        known = self.found[-1]
        ways = [(known[state][0], state) for state in self.machine.accepted if state in known]
        return max(ways)[1] if ways else None

    def lot(self, state):
        """A lot of the greatest weight that leads the term to the state."""
        found = []
        todo = [(len(self.nodes) - 1, state)]
        while todo:
            at, state = todo.pop()
            step, left, right = self.nodes[at]
            if right is None:
                none, some = both_states(self.machine, step)
                if some == state and (none != state or self.weights[left] > 0):
                    found.append(left)
            else:
                p, q = self.parts_of(at, state)
                todo.extend([(left, p), (right, q)])
        return tuple(sorted(found))

    def parts_of(self, at, state):
        """Two states of the parts of a join from which the greatest weight for its state comes."""
        j, left, right = self.nodes[at]
        table = self.machine.rows[j]
        weight = self.found[at][state][0]
        for p, one in self.found[left].items():
            for q, two in self.found[right].items():
                if table[p][q] == state and one[0] + two[0] == weight:
                    return p, q
        return None

    def outsides(self):
        """For each part a dict from states to the greatest weight outside of it with which they lead on to accepted."""
        outer = [{} for _ in self.nodes]
        outer[-1] = {state: 0 for state in self.machine.accepted}
        for at in range(len(self.nodes) - 1, -1, -1):
            j, left, right = self.nodes[at]
            if right is not None:
                table = self.machine.rows[j]
                for p, one in self.found[left].items():
                    for q, two in self.found[right].items():
                        if table[p][q] in outer[at]:
                            weight = outer[at][table[p][q]]
                            raise_to(outer[left], p, weight + two[0])
                            raise_to(outer[right], q, weight + one[0])
        return outer


def united(ways):
    """A dict from the states of ways to the greatest weight and the number of lots that have it."""
    found = {}
    for state, weight, many in ways:
        if state in found and found[state][0] == weight:
            found[state] = (weight, found[state][1] + many)
        elif state not in found or found[state][0] < weight:
            found[state] = (weight, many)
    return found


def raise_to(weights, state, weight):
    """Keeps a weight for a state if it is greater than the one kept."""
    if state not in weights or weights[state] < weight:
        weights[state] = weight


def best(machine, term, weights):
    """The greatest weight of a fitting lot, None if no lot fits."""
    heights = Heights(machine, term, weights)
    state = heights.best_state()
    return None if state is None else heights.found[-1][state][0]


def best_many(machine, term, weights):
    """The number of fitting lots of the greatest weight."""
    heights = Heights(machine, term, weights)
    state = heights.best_state()
    if state is None:
        return 0
    known = heights.found[-1]
    tops = [known[other] for other in machine.accepted if other in known]
    return sum([many for weight, many in tops if weight == known[state][0]])


def best_lot(machine, term, weights):
    """A fitting lot of the greatest weight, None if no lot fits."""
    heights = Heights(machine, term, weights)
    state = heights.best_state()
    return None if state is None else heights.lot(state)


def ends(machine, term, weights):
    """For each place the greatest weights of fitting lots with it and without it."""
    heights = Heights(machine, term, weights)
    outsides = heights.outsides()
    found = []
    for node, outside in zip(heights.nodes, outsides):
        if node[2] is None:
            none, some = both_states(machine, node[0])
            weight = heights.weights[node[1]]
            found.append((outside[some] + weight if some in outside else None, outside.get(none)))
    return tuple(found)


class Weigh:
    """Tells the weights of lots."""

    def __init__(self, weights):
        if not isinstance(weights, (list, tuple)) or not are_integers(weights, len(weights)):
            raise BadNumber("weights")
        self.weights = tuple(weights)

    def __call__(self, lot):
        return sum([self.weights[place] for place in lot_of(lot, len(self.weights))])
