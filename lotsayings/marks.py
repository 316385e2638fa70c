"""The marks of all trees."""

from lotsayings.branches import bits_in, children_of, from_below
from lotsayings.choices import MarkNodes
from lotsayings.errors import BadNumber, TooMany
from lotsayings.gathers import is_states
from lotsayings.leasts import least
from lotsayings.machines import bits_number, bits_of
from lotsayings.nodes import Nodes
from lotsayings.terms import check_term
from lotsayings.unmoved import check_counted

MOST_NODES = 300
MOST_PLACES = 200


class MarkTable:
    """The marks of all trees; its machine is the least one."""

    def __init__(self, machine):
        check_counted(machine)
        self.machine = least(machine)
        self.spec = MarkNodes(self.machine)
        self.nodes = Nodes(self.spec, MOST_NODES)
        self.marks = tuple(sorted(self.spec.marks))
        self.smallest = Smallest(self.nodes, self.machine.many - 1)

    @property
    def number(self):
        """The number of marks."""
        return len(self.marks)

    def __iter__(self):
        return iter(self.marks)

    def mark_of(self, term):
        """The mark of a tree."""
        check_term(self.machine.bench, term, self.machine.many - 1)
        node = place_nodes(self.nodes, term)[0]
        return self.spec.marks[self.nodes.labels[node]]

    def tree_for(self, mark):
        """A tree of this mark with the fewest places, in which children of equal mark have equal subtrees."""
        if self.places_of(mark) > MOST_PLACES:
            raise TooMany("places")
        return self.smallest.built[self.smallest.best[self.number_of_mark(mark)]]

    def places_of(self, mark):
        """The fewest places of a tree of this mark."""
        return self.smallest.sizes[self.number_of_mark(mark)]

    def fits(self, mark):
        """Whether some lot fits on the trees of this mark."""
        self.number_of_mark(mark)
        return self.has_accepted(mark[0])

    def picks(self, mark):
        """Whether a choice leads to an accepted state on the trees of this mark."""
        self.number_of_mark(mark)
        return self.has_accepted(mark[1])

    def has_accepted(self, states):
        """Whether one of the states is accepted."""
        return any([state in self.machine.accepted for state in states])

    def number_of_mark(self, mark):
        """The number of a mark in the order of finding; BadNumber if the table does not have it."""
        if not isinstance(mark, tuple) or not all([is_states(states) for states in mark]):
            raise BadNumber("mark")
        if mark not in self.spec.numbers:
            raise BadNumber("mark")
        return self.spec.numbers[mark]


def place_nodes(nodes, term):
    """For each place of a tree the number of the mark node of its subtree."""
    children = children_of(term)
    found = [nodes.first[bits_number(bits)] for bits in bits_in(term)]
    for place in from_below(children):
        for child in children[place]:
            found[place] = nodes.steps[found[place]][nodes.labels[found[child]]]
    return found


class Smallest:
    """The fewest places of a tree of each mark, and how such a tree is made.

    Nodes are settled in the order of their sizes. The first node that is settled of a mark has its smallest tree,
    and from then on this tree is hung for the mark; what is made so is never less than its parts.
    """

    def __init__(self, nodes, tracks):
        self.nodes = nodes
        self.tracks = tracks
        self.known = [None] * len(nodes.all_nodes)
        self.origins = [None] * len(nodes.all_nodes)
        self.built = [None] * len(nodes.all_nodes)
        self.settled = []
        self.sizes = [None] * len(nodes.all_labels)
        self.best = [None] * len(nodes.all_labels)
        for k, node in enumerate(nodes.first):
            self.offer(node, 1, (k,))
        waiting = {node: True for node in nodes.first}
        while waiting:
            node = min([(self.known[node], node) for node in waiting])[1]
            del waiting[node]
            for other in self.settle(node):
                waiting[other] = True

    def offer(self, node, size, origin):
        """Keeps how a node is made, a number of bits or a node and a mark, if its size is less; whether it is."""
        if self.known[node] is None or size < self.known[node]:
            self.known[node] = size
            self.origins[node] = origin
            return True
        return False

    def settle(self, node):
        """Hangs all marks with a known tree on a node, and its own mark on the settled ones; the nodes made so."""
        self.settled.append(node)
        self.built[node] = self.term_for(self.origins[node])
        label = self.nodes.labels[node]
        pairs = [(node, other) for other, size in enumerate(self.sizes) if size is not None]
        if self.sizes[label] is None:
            self.sizes[label] = self.known[node]
            self.best[label] = node
            pairs.extend([(base, label) for base in self.settled])
        made = []
        for base, hanging in pairs:
            goal = self.nodes.steps[base][hanging]
            if self.offer(goal, self.known[base] + self.sizes[hanging], (base, hanging)):
                made.append(goal)
        return made

    def term_for(self, origin):
        """The smallest tree of a node that is made so."""
        if len(origin) == 1:
            return (0, bits_of(origin[0], self.tracks))
        base, hanging = origin
        return (0, self.built[base], self.built[self.best[hanging]])
