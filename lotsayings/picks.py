"""Picking one fitting lot on each tree on which some lot fits."""

from lotsayings.branches import children_of
from lotsayings.errors import BadName, NotPicked, TooMany
from lotsayings.founds import useful
from lotsayings.lots import is_name
from lotsayings.marks import MarkTable, place_nodes
from lotsayings.nodes import Nodes
from lotsayings.sayings import MOST_FRESH, check_saying, names_among, put_in
from lotsayings.terms import check_term
from lotsayings.unmoved import check_counted

MOST_PICK_NODES = 1000
DEAD = ()


def can_pick(machine):
    """Whether some machine picks for the machine."""
    return not unpicked_marks(MarkTable(machine))


def unpicked_marks(table):
    """The marks of trees on which some lot fits and no unmoved one does."""
    return [mark for mark in table if table.fits(mark) and not table.picks(mark)]


def no_pick(machine):
    """A tree of the fewest places on which some lot fits and no unmoved one does, None if there is none."""
    table = MarkTable(machine)
    marks = unpicked_marks(table)
    if not marks:
        return None
    return table.tree_for(min([(table.places_of(mark), mark) for mark in marks])[1])


def picked_table(machine):
    """The table of the marks; NotPicked if no machine picks."""
    table = MarkTable(machine)
    if unpicked_marks(table):
        raise NotPicked()
    return table


def picked(machine, term):
    """The picked lot of the tree, None if no lot fits."""
    check_counted(machine)
    check_term(machine.bench, term, machine.many - 1)
    table = picked_table(machine)
    nodes = place_nodes(table.nodes, term)
    goal = picked_state(table, nodes[0])
    if goal is None:
        return None
    children = children_of(term)
    lot = []
    todo = [(0, goal)]
    while todo:
        place, state = todo.pop()
        bit, way = table.spec.first_choice(table.nodes.all_nodes[nodes[place]], state)
        if bit:
            lot.append(place)
        states = {label: q for label, q in way}
        todo.extend([(child, states[table.nodes.labels[nodes[child]]]) for child in children[place]])
    return tuple(sorted(lot))


def picked_state(table, node):
    """The least accepted state to which choices lead on the trees with this mark node, None if there is none."""
    mark = table.spec.marks[table.nodes.labels[node]]
    states = [state for state in mark[1] if state in table.machine.accepted]
    return min(states) if states else None


def picker(machine):
    """The machine that answers True, on each tree, to the picked lot alone."""
    table = picked_table(machine)
    spec = PickNodes(table)
    nodes = Nodes(spec, MOST_PICK_NODES)
    accepted = [spec.is_picked(node) for node in nodes.all_nodes]
    return nodes.least_machine(table.machine.bench, table.machine.many, accepted)


class PickNodes:
    """The pick nodes of the terms with the last track, one of which is DEAD.

    Another one is a triple (node, bit, pairs): the number of the mark node, the bit of the root in the last track,
    and for each mark of the root's children the pair of its number and its state. The label of a node is the pair
    of the number of its mark and its state if the lot is the picked one for this state, else None.
    """

    def __init__(self, table):
        self.mark_table = table
        self.spec = table.spec
        self.useful_states = useful(table.machine)
        self.choices = {}

    def first_nodes(self):
        """The nodes of the leaves."""
        first = self.mark_table.nodes.first
        return [self.checked((node, bit, ())) for bit in (0, 1) for node in first]

    def checked(self, node):
        """The node, or DEAD if its state is not useful."""
        return node if self.state_of(node) in self.useful_states else DEAD

    def state_of(self, node):
        """The state of the terms with this node."""
        number, bit, pairs = node
        _, k, counts = self.mark_table.nodes.all_nodes[number]
        states = {label: q for label, q in pairs}
        state = self.spec.leaf(k, bit)
        for label, many in counts:
            state = self.spec.hung(states[label], many)[state]
        return state

    def label_for(self, node):
        """The number of the mark and the state, None if the lot is not the picked one for this state."""
        if node == DEAD:
            return None
        number, bit, pairs = node
        state = self.state_of(node)
        if (number, state) not in self.choices:
            found, way = self.spec.first_choice(self.mark_table.nodes.all_nodes[number], state)
            self.choices[number, state] = (found, tuple(sorted(way)))
        if self.choices[number, state] != (bit, pairs):
            return None
        return self.mark_table.nodes.labels[number], state

    def with_child(self, node, label):
        """The node with a child more that has this mark and this state."""
        if node == DEAD or label is None:
            return DEAD
        number, bit, pairs = node
        mark, state = label
        states = {other: q for other, q in pairs}
        if states.setdefault(mark, state) != state:
            return DEAD
        goal = self.mark_table.nodes.steps[number][mark]
        return self.checked((goal, bit, tuple([(other, states[other]) for other in sorted(states)])))

    def is_picked(self, node):
        """Whether the lot of the terms with this node is the picked one."""
        label = self.label_for(node)
        return label is not None and label[1] == picked_state(self.mark_table, node[0])


def greatest_saying(saying, name):
    """The saying that the lot for the name fits and that each lot that fits lies in it."""
    check_saying(saying)
    if not is_name(name):
        raise BadName(name)
    used = names_among(saying, True)
    used[name] = True
    for other in ["Z"] + ["Z" + str(k) for k in range(MOST_FRESH)]:
        if other not in used:
            least_bound = ("or", ("not", put_in(saying, name, other)), ("in", other, name))
            return ("and", saying, ("all", other, least_bound))
    raise TooMany("names")
