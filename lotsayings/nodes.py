"""Finding all nodes that trees have, where the node of t.u follows from the node of t and the label of the node of u.

What a class of such nodes tells: first_nodes() the nodes of the leaves by their numbers of bits, label_for(node) the
label, and with_child(node, label) the node of t.u.
"""

from lotsayings.errors import TooGreat
from lotsayings.machines import MOST_PASSED, Machine, leaf_rows, least_of
from lotsayings.quotients import columns_of, first_of_kinds, numbered


class Nodes:
    """All nodes of trees, their labels, and steps[node][label]: the node of a tree with a child hung.

    Nodes and labels are told by numbers here: all_nodes[n] and all_labels[l] have the numbers n and l, first[k] is
    the node of the leaf with the number of bits k, and labels[n] the label of the node n.
    """

    def __init__(self, spec, most):
        self.spec = spec
        self.most = most
        self.all_nodes = []
        self.all_labels = []
        self.labels = []
        self.steps = []
        self.node_numbers = {}
        self.label_numbers = {}
        self.first = [self.number_for(node) for node in spec.first_nodes()]
        done = (0, 0)
        while done != (len(self.all_nodes), len(self.all_labels)):
            done = (len(self.all_nodes), len(self.all_labels))
            at = 0
            while at < len(self.all_nodes):
                self.hang_all(at)
                at += 1

    def number_for(self, node):
        """The number of a node; a new one is kept, with its label."""
        if node not in self.node_numbers:
            self.node_numbers[node] = len(self.all_nodes)
            self.all_nodes.append(node)
            self.steps.append([])
            if len(self.all_nodes) > self.most:
                raise TooGreat("nodes")
            label = self.spec.label_for(node)
            if label not in self.label_numbers:
                self.label_numbers[label] = len(self.all_labels)
                self.all_labels.append(label)
            self.labels.append(self.label_numbers[label])
        return self.node_numbers[node]

    def hang_all(self, at):
        """Tells what each label makes of a node, as far as it is not told."""
        steps = self.steps[at]
        while len(steps) < len(self.all_labels):
            label = self.all_labels[len(steps)]
            steps.append(self.number_for(self.spec.with_child(self.all_nodes[at], label)))

    def least_machine(self, bench, many, accepted):
        """The least machine of which a node is a state; accepted tells for each node whether it is accepted."""
        kinds = self.refined_by(numbered(accepted))
        firsts = first_of_kinds(kinds)
        if len(firsts) > MOST_PASSED:
            raise TooGreat("nodes")
        labels = [self.labels[node] for node in firsts]
        table = [tuple([kinds[self.steps[node][label]] for label in labels]) for node in firsts]
        leaves = leaf_rows([kinds[node] for node in self.first], many)
        good = tuple([kind for kind, node in enumerate(firsts) if accepted[node]])
        return least_of(Machine(bench, many, leaves, (tuple(table),), good))

    def refined_by(self, kinds):
        """For each node its kind, where nodes of one kind are told apart by no context."""
        finer = self.finer_by(kinds)
        while finer != kinds:
            kinds = finer
            finer = self.finer_by(kinds)
        return kinds

    def finer_by(self, kinds):
        """Kinds that part nodes of a kind on which a label, or whose labels on a node, make nodes of unlike kinds."""
        rows = [tuple([kinds[node] for node in steps]) for steps in self.steps]
        alike = numbered(columns_of(rows))
        return numbered([(kinds[n], alike[self.labels[n]], row) for n, row in enumerate(rows)])
