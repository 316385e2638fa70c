"""Parting two machines by plain sayings with counts by d."""

from lotsayings.cuts import check_number, folded
from lotsayings.errors import BadNumber, NotWeb, OtherTracks
from lotsayings.forms import check_on_trees
from lotsayings.gathers import MOST_COUNTS, Gather, many_of_walk
from lotsayings.hanging import is_web_machine
from lotsayings.nodes import Nodes
from lotsayings.rings import all_walks
from lotsayings.steps import common
from lotsayings.verdicts import gives

MOST_NODES = 300


def check_both(machine, other):
    """NotOnTrees, OtherTracks, NotWeb unless both are web machines on trees with as many tracks."""
    check_on_trees(machine)
    check_on_trees(other)
    if machine.many != other.many:
        raise OtherTracks()
    if not is_web_machine(machine) or not is_web_machine(other):
        raise NotWeb()


def is_parted(machine, other, d):
    """Whether the machines are parted by d."""
    return inseparable(machine, other, d) is None


def inseparable(machine, other, d):
    """The least set of the gather of the common machine that holds a state of both, None if there is none."""
    check_both(machine, other)
    check_number(d, "d", 1, MOST_COUNTS)
    whole, first, second = common(machine, other)
    return Gather(whole, d).meets(first, second)


def parting(machine, other, d):
    """A machine of a plain saying with counts by d that parts machine from other, None if they are not parted."""
    check_both(machine, other)
    check_number(d, "d", 1, MOST_COUNTS)
    whole, first, second = common(machine, other)
    gather = Gather(whole, d)
    if gather.meets(first, second) is not None:
        return None
    census = Census(gather)
    nodes = Nodes(census, MOST_NODES)
    kinds = [nodes.all_labels[label] for label in nodes.labels]
    accepted = [any([state in first for state in kind]) for kind in kinds]
    return nodes.least_machine(whole.bench, whole.many, accepted)


def between(machine, other, d):
    """A machine of a plain saying with counts by d that lies between machine and other, None if there is none."""
    check_both(machine, other)
    check_number(d, "d", 1, MOST_COUNTS)
    if not gives(machine, other):
        raise BadNumber("gives")
    return parting(machine, ~other, d)


def least_parting(machine, other):
    """The least d from 1 to 6 by which the machines are parted, None if there is none."""
    check_both(machine, other)
    whole, first, second = common(machine, other)
    for d in range(1, MOST_COUNTS + 1):
        if Gather(whole, d).meets(first, second) is None:
            return d
    return None


class Census:
    """The census nodes of trees: the number of bits of the root, and its numbers of children of each kind.

    A node is a pair (k, pairs), with a pair (number of the kind, cut number of children) for each kind of which
    this cut number is not 0. The label of a node is the kind of its trees.
    """

    def __init__(self, gather):
        self.gather = gather
        self.walks = all_walks(gather.machine.rows[0])
        self.numbers = {}
        self.hangings = []

    def first_nodes(self):
        """The nodes of the leaves."""
        return [(k, ()) for k in range(len(self.gather.machine.leaves[0]))]

    def label_for(self, node):
        """The kind of the trees with this node."""
        k, pairs = node
        kind = (self.gather.machine.leaves[0][k],)
        for number, many in pairs:
            kind = self.hangings[number].hung(kind, many)
        return kind

    def with_child(self, node, label):
        """The node with a child of a kind more."""
        if label not in self.numbers:
            self.numbers[label] = len(self.hangings)
            self.hangings.append(Hanging(self.gather, label, self.walks))
        number = self.numbers[label]
        counts = {kind: many for kind, many in node[1]}
        counts[number] = self.hangings[number].cut_of(counts.get(number, 0) + 1)
        return node[0], tuple([(kind, counts[kind]) for kind in sorted(counts) if counts[kind]])


class Hanging:
    """What hanging a kind n times makes of the sets of a gather, and how n is cut.

    rows[n] tells for each set P what HANG(P, C, n) is, for each n that is its own cut.
    """

    def __init__(self, gather, kind, walks):
        runs = [max([walk[0] for walk in walks[q]]) for q in kind]
        enough = 1 + sum([max(0, run - 1) for run in runs])
        goals = {base: gather.one(base, kind) for base in gather}
        many = rows_of_many(goals, gather.d)
        self.d = least_period(many)
        rows = [list(gather)]
        while len(rows) < enough:
            rows.append([goals[base] for base in rows[-1]])
        for n in range(enough, enough + gather.d):
            rows.append(many[n % gather.d])
        self.t = enough
        while self.t > 0 and rows[self.t - 1] == rows[self.t - 1 + self.d]:
            self.t -= 1
        self.rows = [{base: goal for base, goal in zip(gather, row)} for row in rows[:self.t + self.d]]

    def cut_of(self, many):
        """A number of children, cut."""
        return folded(many, self.t, self.d)

    def hung(self, base, many):
        """The set that hanging the kind so often makes of a set."""
        return self.rows[many][base]


def rows_of_many(goals, d):
    """For each rest by d the row of MANY of all sets; goals tells what hanging the kind once makes of a set."""
    rows = [[] for _ in range(d)]
    for base in goals:
        met = {}
        walk = []
        goal = base
        while goal not in met:
            met[goal] = len(walk)
            walk.append(goal)
            goal = goals[goal]
        for rest in range(d):
            rows[rest].append(many_of_walk(walk, met[goal], rest, d))
    return rows


def least_period(rows):
    """The least divisor of their number by which the rows repeat."""
    d = len(rows)
    periods = [period for period in range(1, d + 1) if d % period == 0]
    return min([period for period in periods if rows == rows[period:] + rows[:period]])
