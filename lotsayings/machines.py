"""Machines: they walk a term from the leaves up and keep one state for each part."""

from lotsayings.benches import Bench, is_ascending
from lotsayings.codes import PairCodes, StateCodes
from lotsayings.cuts import check_number, is_between
from lotsayings.errors import BadMachine, OtherBench, OtherTracks, TooGreat
from lotsayings.quotients import first_of_kinds, put_together, refined
from lotsayings.shells import MOST_STATES, explored, grown, numbers_among, pairs_of_shell, tables_of
from lotsayings.terms import check_term
from lotsayings.walks import postfix

MOST_TRACKS = 5
MOST_PASSED = 300


def bits_number(bits):
    """The number of bits: the sum of bits[k] * 2^k."""
    number = 0
    for bit in bits[::-1]:
        number = number * 2 + bit
    return number


def bits_of(number, many):
    """The tuple of many bits with this number."""
    return tuple([number >> k & 1 for k in range(many)])


def check_bench(bench, many):
    """BadMachine unless bench is one and many is a number of tracks."""
    if not isinstance(bench, Bench):
        raise BadMachine("bench")
    if not is_between(many, 0, MOST_TRACKS):
        raise BadMachine("many")


def is_row(row, length, states):
    """Whether row is a tuple of so many integers from 0 to states - 1."""
    if not isinstance(row, tuple) or len(row) != length:
        return False
    return all([is_between(state, 0, states - 1) for state in row])


def are_rows(value, many, length, states):
    """Whether value is a tuple of many such rows."""
    if not isinstance(value, tuple) or len(value) != many:
        return False
    return all([is_row(row, length, states) for row in value])


def are_tables(rows, joins):
    """Whether rows is a tuple of tables of all joins, as many rows and columns in each."""
    if not isinstance(rows, tuple) or len(rows) != joins or not isinstance(rows[0], tuple):
        return False
    states = len(rows[0])
    if not 1 <= states <= MOST_PASSED:
        return False
    return all([are_rows(table, states, states, states) for table in rows])


def are_accepted(accepted, states):
    """Whether accepted is an ascending tuple of states, none twice."""
    return isinstance(accepted, tuple) and is_row(accepted, len(accepted), states) and is_ascending(accepted)


class Machine:
    """A state for each leaf, a table of states for each join, and the accepted states."""

    def __init__(self, bench, many, leaves, rows, accepted):
        check_bench(bench, many)
        if not are_rows(leaves, len(bench.starts), 1 << many, MOST_PASSED):
            raise BadMachine("leaves")
        if not are_tables(rows, len(bench)):
            raise BadMachine("rows")
        states = len(rows[0])
        if not are_rows(leaves, len(bench.starts), 1 << many, states):
            raise BadMachine("leaves")
        if not are_accepted(accepted, states):
            raise BadMachine("accepted")
        self.bench = bench
        self.many = many
        self.leaves = leaves
        self.rows = rows
        self.accepted = accepted

    @property
    def states(self):
        """The number of states."""
        return len(self.rows[0])

    def __len__(self):
        return len(self.rows[0])

    def __eq__(self, other):
        if not isinstance(other, Machine):
            return False
        if self.bench != other.bench or self.many != other.many or self.leaves != other.leaves:
            return False
        return self.rows == other.rows and self.accepted == other.accepted

    def state(self, term):
        """The state of the term."""
        check_term(self.bench, term, self.many)
        return state_by(self, term, None)

    def answers(self, term):
        """Whether the state of the term is accepted."""
        return self.state(term) in self.accepted

    def state_in(self, context, state):
        """The state of the context with its hole counted as the state."""
        check_term(self.bench, context, self.many, hole=True)
        check_number(state, "state", 0, self.states - 1)
        return state_by(self, context, state)

    def accepting(self, states):
        """The machine with these accepted states, all else alike."""
        return Machine(self.bench, self.many, self.leaves, self.rows, states)

    @classmethod
    def told(cls, bench, many, leaf, join):
        """The machine of the codes that leaf(label, bits) and join(j, p, q) give, none accepted."""
        check_bench(bench, many)
        first = [leaf(label, bits_of(number, many)) for label in bench.starts for number in range(1 << many)]
        codes = grown([], first)
        shells = []
        while len(shells) < len(codes):
            pairs = pairs_of_shell(len(shells))
            fresh = [join(j, codes[p], codes[q]) for p, q in pairs for j in range(len(bench))]
            codes = grown(codes, fresh)
            if len(codes) > MOST_STATES:
                raise TooGreat("pairs")
            shells.append(numbers_among(codes, fresh))
        leaves = leaf_rows(numbers_among(codes, first), many)
        return cls(bench, many, leaves, tables_of(shells, len(bench)), ())

    def __invert__(self):
        others = [state for state in range(self.states) if state not in self.accepted]
        return least_of(self.accepting(tuple(others)))

    def __and__(self, other):
        return paired(self, other, "and")

    def __or__(self, other):
        return paired(self, other, "or")

    def __xor__(self, other):
        return paired(self, other, "xor")


def state_by(machine, term, hole):
    """The state of a term, or of a context with its hole counted as a state."""
    leaves = {label: row for label, row in zip(machine.bench.starts, machine.leaves)}
    states = []
    for step in postfix(term):
        if step is None:
            states.append(hole)
        elif isinstance(step, tuple):
            states.append(leaves[step[0]][bits_number(step[1])])
        else:
            right = states.pop()
            left = states.pop()
            states.append(machine.rows[step][left][right])
    return states[0]


def leaf_rows(row, many):
    """The states of the leaves, all in one row, as a tuple with a tuple for each start."""
    wide = 1 << many
    return tuple([tuple(row[at:at + wide]) for at in range(0, len(row), wide)])


def least_told(bench, many, found, values):
    """The least machine of found states: found is a triple as of explored, values tell what is accepted."""
    _, row, tables = found
    kinds = refined(tables, values)
    firsts = first_of_kinds(kinds)
    accepted = [kind for kind, first in enumerate(firsts) if values[first]]
    leaves = leaf_rows([kinds[state] for state in row], many)
    return Machine(bench, many, leaves, put_together(tables, kinds), tuple(accepted))


def found_states(machine):
    """The reached states in the order of finding, the row of the leaves, and the tables, by their new numbers."""
    return explored(StateCodes(machine.leaves, machine.rows), None, "pairs")


def least_of(machine):
    """The least machine."""
    found = found_states(machine)
    values = [state in machine.accepted for state in found[0]]
    return least_told(machine.bench, machine.many, found, values)


def check_alike(one, two):
    """OtherBench, OtherTracks unless two machines have one bench and as many tracks."""
    if one.bench != two.bench:
        raise OtherBench()
    if one.many != two.many:
        raise OtherTracks()


def found_pairs(one, two):
    """What explored tells of the pairs of states of two least machines."""
    return explored(PairCodes(one, two), MOST_STATES, "pairs")


def paired(one, two, word):
    """The least machine of the pairs of two machines, accepted by "and", "or" or "xor"."""
    check_alike(one, two)
    one = least_of(one)
    two = least_of(two)
    found = found_pairs(one, two)
    values = []
    for code in found[0]:
        first = code // two.states in one.accepted
        second = code % two.states in two.accepted
        values.append(both_values(first, second, word))
    return least_told(one.bench, one.many, found, values)


def both_values(first, second, word):
    """What a word makes of two truths."""
    if word == "and":
        return first and second
    if word == "or":
        return first or second
    return first != second


class Answer:
    """Tells of terms what a machine answers."""

    def __init__(self, machine):
        self.machine = machine

    def __call__(self, term):
        return self.machine.answers(term)
