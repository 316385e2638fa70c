"""The mark nodes of trees, their marks, and the choices that lead to states."""

from math import lcm

from lotsayings.cuts import folded
from lotsayings.rings import all_walks


class MarkNodes:
    """The mark nodes of trees without the last track, for a least web machine on trees.

    A node is a triple (S, k, pairs): the states over all lots, the number of bits of the root, and, for each mark
    of a child of the root, a pair (number of the mark, number of such children, cut). Pairs are ascending by the
    numbers of marks, and these are given in the order of finding. The label of a node is the number of its mark.
    """

    def __init__(self, machine):
        self.products = machine.rows[0]
        self.leaves = machine.leaves[0]
        self.half = len(self.leaves) // 2
        self.walks = all_walks(self.products)
        self.marks = []
        self.numbers = {}
        self.cuts = []
        self.hangings = {}

    def first_nodes(self):
        """The nodes of the leaves."""
        nodes = []
        for k in range(self.half):
            states = [self.leaf(k, bit) for bit in (0, 1)]
            nodes.append((tuple(sorted(set(states))), k, ()))
        return nodes

    def leaf(self, k, bit):
        """The state of the leaf with these bits, and with this one as its last."""
        return self.leaves[k + self.half * bit]

    def label_for(self, node):
        """The number of the mark of the trees with this node; a new mark is kept."""
        chosen = {}
        for bit in (0, 1):
            for state in self.layers(node, bit)[-1]:
                chosen[state] = True
        mark = (node[0], tuple(sorted(chosen)))
        if mark not in self.numbers:
            self.numbers[mark] = len(self.marks)
            self.marks.append(mark)
            self.cuts.append(self.cut_for(mark[1]))
        return self.numbers[mark]

    def cut_for(self, states):
        """By what (t, d) the children of a mark with these states in its second set are counted."""
        walks = [walk for q in states for walk in self.walks[q]]
        d = 1
        for walk in walks:
            d = lcm(d, walk[1])
        return max(1, max([walk[0] for walk in walks])), d

    def with_child(self, node, label):
        """The node with a child of a mark more."""
        states, k, pairs = node
        found = {self.products[p][q]: True for p in states for q in self.marks[label][0]}
        counts = {number: many for number, many in pairs}
        t, d = self.cuts[label]
        counts[label] = folded(counts.get(label, 0) + 1, t, d)
        return tuple(sorted(found)), k, tuple([(number, counts[number]) for number in sorted(counts)])

    def hung(self, q, many):
        """For each state what it becomes if the state q is hung so often."""
        rows = self.hangings.setdefault(q, [list(range(len(self.products)))])
        while len(rows) <= many:
            rows.append([self.products[p][q] for p in rows[-1]])
        return rows[many]

    def options(self, node):
        """The choices of the children's states: for each mark of a child, marks ascending, a step.

        A step is a pair of the number of the mark and a list of pairs (q, goals): the states of its second set, and
        for each state of a tree what it becomes if all these children have the state q.
        """
        pairs = sorted([(self.marks[number], number, many) for number, many in node[2]])
        steps = []
        for mark, number, many in pairs:
            steps.append((number, [(q, self.hung(q, many)) for q in mark[1]]))
        return steps

    def layers(self, node, bit):
        """The states to which choices with this bit lead: of the leaf, and behind each of the steps."""
        layers = [[self.leaf(node[1], bit)]]
        for _, ways in self.options(node):
            found = {goals[p]: True for p in layers[-1] for _, goals in ways}
            layers.append(list(found))
        return layers

    def first_choice(self, node, state):
        """The first choice for a state: the bit, and pairs of the number of a mark and its state, marks ascending."""
        for bit in (0, 1):
            layers = self.layers(node, bit)
            if state in layers[-1]:
                return bit, self.first_way(node, layers, state)
        return None

    def first_way(self, node, layers, state):
        """The first choice of the children's states that leads to a state; layers tell all to which one leads."""
        steps = self.options(node)
        wanted = [{state: True}]
        for layer, step in zip(layers[-2::-1], steps[::-1]):
            ahead = wanted[-1]
            wanted.append({x: True for x in layer if first_into(step[1], x, ahead) is not None})
        p = layers[0][0]
        way = []
        for step, ahead in zip(steps, wanted[-2::-1]):
            q, goals = first_into(step[1], p, ahead)
            way.append((step[0], q))
            p = goals[p]
        return tuple(way)


def first_into(ways, p, ahead):
    """The first pair (q, goals) of the ways that brings p to a state ahead, None if there is none."""
    for way in ways:
        if way[1][p] in ahead:
            return way
    return None
