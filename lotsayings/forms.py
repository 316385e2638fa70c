"""Trees as rows of pairs, the states of their places, and exchanges of children."""

from lotsayings.benches import Bench
from lotsayings.branches import bits_in, children_of, from_below
from lotsayings.cuts import check_number, is_between
from lotsayings.errors import BadNumber, NotOnTrees
from lotsayings.machines import MOST_TRACKS, bits_number, bits_of
from lotsayings.terms import check_term, many_of

MOST_PAIRS = 200


def check_on_trees(machine):
    """NotOnTrees unless the machine is on Bench.trees()."""
    if machine.bench != Bench.trees():
        raise NotOnTrees()


def rows_of_places(term, children):
    """The tree rows of the branches of all places."""
    numbers = [bits_number(bits) for bits in bits_in(term)]
    rows = [()] * len(children)
    for place in from_below(children):
        row = [(len(children[place]), numbers[place])]
        for part in sorted([rows[child] for child in children[place]]):
            row.extend(part)
        rows[place] = tuple(row)
    return rows


def tree_row(term):
    """The tree row of the root's branch."""
    return rows_of_places(term, children_of(term))[0]


def are_tree_pairs(row, many):
    """Whether row is a tuple of 1 to 200 pairs of a number of children and a number of bits."""
    if not isinstance(row, tuple) or not 1 <= len(row) <= MOST_PAIRS:
        return False
    for pair in row:
        if not isinstance(pair, tuple) or len(pair) != 2:
            return False
        if not is_between(pair[0], 0, MOST_PAIRS) or not is_between(pair[1], 0, (1 << many) - 1):
            return False
    return True


def tree_term(row, many):
    """The term with many tracks whose places are told by the pairs of the row, the root first."""
    check_number(many, "many", 0, MOST_TRACKS)
    if not are_tree_pairs(row, many):
        raise BadNumber("row")
    # From behind, what was made last and not yet hung is the branch that follows in the row.
    parts = []
    for children, number in row[::-1]:
        if children > len(parts):
            raise BadNumber("row")
        term = (0, bits_of(number, many))
        for _ in range(children):
            term = (0, term, parts.pop())
        parts.append(term)
    if len(parts) != 1:
        raise BadNumber("row")
    return parts[0]


def place_states(machine, term):
    """For each place the state of its leaf with its children's states hung."""
    check_on_trees(machine)
    check_term(machine.bench, term, machine.many)
    children = children_of(term)
    states = [machine.leaves[0][bits_number(bits)] for bits in bits_in(term)]
    for place in from_below(children):
        for child in children[place]:
            states[place] = machine.rows[0][states[place]][states[child]]
    return tuple(states)


class Spines:
    """The term of a tree whose children are exchanged step by step.

    For each place, spines holds its leaf, and the leaf with its first child hung, with its first two children, and
    so on; so an exchange makes new only what stands above it.
    """

    def __init__(self, term):
        self.children = children_of(term)
        self.parents = [None] * len(self.children)
        for place, row in enumerate(self.children):
            for child in row:
                self.parents[child] = place
        self.spines = [[(0, bits)] for bits in bits_in(term)]
        for place in from_below(self.children):
            self.hang_from(place, 0)

    def hang_from(self, place, at):
        """Hangs the children of a place anew, from the one with index at on."""
        spine = self.spines[place]
        del spine[at + 1:]
        for child in self.children[place][at:]:
            spine.append((0, spine[-1], self.spines[child][-1]))

    def exchange(self, place, at):
        """Exchanges the child with index at and the next one, and returns the whole term."""
        row = self.children[place]
        row[at:at + 2] = [row[at + 1], row[at]]
        self.hang_from(place, at)
        while self.parents[place] is not None:
            child = place
            place = self.parents[child]
            self.hang_from(place, self.children[place].index(child))
        return self.spines[0][-1]


def exchange_way(term, other):
    """A list of terms from term to other, each one exchange from the one ahead of it, None if there is none."""
    if many_of(term) != many_of(other):
        return None
    goals = children_of(other)
    rows = rows_of_places(term, children_of(term))
    goal_rows = rows_of_places(other, goals)
    if rows[0] != goal_rows[0]:
        return None
    spines = Spines(term)
    way = [term]
    todo = [(0, 0)]
    while todo:
        place, goal = todo.pop()
        wanted = mates(spines.children[place], rows, [goal_rows[child] for child in goals[goal]])
        moves = exchanges_to(list(spines.children[place]), wanted)
        for at in moves:
            way.append(spines.exchange(place, at))
        todo.extend(list(zip(wanted, goals[goal])))
    return way


def mates(children, rows, goal_rows):
    """The children in such an order that their rows are the goal rows; equal ones keep their order."""
    waiting = {}
    for child in children[::-1]:
        waiting.setdefault(rows[child], []).append(child)
    return [waiting[row].pop() for row in goal_rows]


def exchanges_to(row, wanted):
    """The indices at which neighbours are exchanged, one after the other, to bring the row into the wanted order."""
    found = []
    for goal, child in enumerate(wanted):
        start = row.index(child)
        for at in range(start - 1, goal - 1, -1):
            row[at:at + 2] = [row[at + 1], row[at]]
            found.append(at)
    return found
