"""The sizes of fitting terms: sets of integers that repeat from some number on."""

from lotsayings.cuts import check_number, is_int
from lotsayings.errors import TooMany
from lotsayings.leasts import least
from lotsayings.lots import lot_of_mask
from lotsayings.machines import bits_of

MOST_REPEAT = 200
MOST_ASKED = 60

# A row that repeats from MOST_REPEAT on with a period up to MOST_REPEAT is told by its items up to this index: from
# MOST_REPEAT on there are as many as two periods together, so a lesser period that fits these fits all.
LAST = 600


def period_of(row):
    """The least period with which the end of a row repeats, None if there is none."""
    for period in range(1, MOST_REPEAT + 1):
        if row[MOST_REPEAT:-period] == row[MOST_REPEAT + period:]:
            return period
    return None


def start_of(row, period):
    """The least index from which on the row repeats with the period."""
    start = len(row) - period
    while start > 0 and row[start - 1] == row[start - 1 + period]:
        start -= 1
    return start


def told_set(row):
    """The tuple (start, period, members, rests) of the set of the indices at which the row is not 0."""
    period = period_of(row)
    start = start_of(row, period)
    members = [n for n in range(start) if row[n]]
    rests = sorted([n % period for n in range(start, start + period) if row[n]])
    return start, period, tuple(members), tuple(rests)


class States:
    """The states of the terms of each size, as numbers with the digit of 2^q for each state q.

    row[n] is that of the terms of n places, 0 for n = 0. More than MOST_REPEAT different ones raise TooMany: sets
    within the bound do not have so many.
    """

    def __init__(self, machine):
        self.tables = machine.rows
        self.many = machine.states
        self.row = [0, 0]
        self.numbers = {}
        self.unions = {}
        self.known = {}
        for leaves in machine.leaves:
            for state in leaves:
                self.row[1] |= 1 << state
        for n in range(2, LAST + 1):
            self.note(self.row[n - 1])
            whole = 0
            for left, right in list({pair: True for pair in zip(self.row[1:], self.row[:0:-1])}):
                whole |= self.joined(left, right)
            self.row.append(whole)

    def note(self, states):
        """Keeps a number of states."""
        self.numbers[states] = True
        if len(self.numbers) > MOST_REPEAT:
            raise TooMany("sizes")

    def joined(self, left, right):
        """All states of joins of terms with these states."""
        if (left, right) not in self.known:
            whole = 0
            for p, way in enumerate(self.rows_with(right)):
                if left >> p & 1:
                    whole |= way
            self.known[left, right] = whole
        return self.known[left, right]

    def rows_with(self, right):
        """For each state on the left all states of joins with these states on the right."""
        if right not in self.unions:
            places = lot_of_mask(right, self.many)
            ways = []
            for p in range(self.many):
                whole = 0
                for table in self.tables:
                    for q in places:
                        whole |= 1 << table[p][q]
                ways.append(whole)
            self.unions[right] = ways
        return self.unions[right]


class Sizes:
    """The set of the sizes of all fitting terms, and those of the terms of each state."""

    def __init__(self, machine):
        self.machine = least(machine)
        self._states = States(self.machine).row
        period = period_of(self._states)
        if period is None or start_of(self._states, period) + period > MOST_REPEAT:
            raise TooMany("sizes")
        accepted = 0
        for state in self.machine.accepted:
            accepted |= 1 << state
        self._told = told_set([states & accepted != 0 for states in self._states])

    @property
    def start(self):
        """The least number from which on the set repeats."""
        return self._told[0]

    @property
    def period(self):
        """The least period with which it repeats."""
        return self._told[1]

    @property
    def members(self):
        """The sizes below start."""
        return self._told[2]

    @property
    def rests(self):
        """The rests by the period of the sizes from start on."""
        return self._told[3]

    def __contains__(self, n):
        if not is_int(n) or n < 1:
            return False
        start, period, members, rests = self._told
        return n in members if n < start else n % period in rests

    def term(self, n):
        """A fitting term with n places, None if there is none."""
        check_number(n, "n", 1, MOST_ASKED)
        for state in self.machine.accepted:
            if self._states[n] >> state & 1:
                return self.term_of(state, n)
        return None

    def term_of(self, state, n):
        """A term of a state with n places; there is one."""
        if n == 1:
            for label, row in zip(self.machine.bench.starts, self.machine.leaves):
                if state in row:
                    return (label, bits_of(row.index(state), self.machine.many))
        j, p, q, less = self.parts_of(state, n)
        return (j, self.term_of(p, less), self.term_of(q, n - less))

    def parts_of(self, state, n):
        """A join that makes terms of a state with n places: its number, the states of its parts, the left size."""
        for less in range(1, n):
            lefts = lot_of_mask(self._states[less], self.machine.states)
            rights = lot_of_mask(self._states[n - less], self.machine.states)
            for j, table in enumerate(self.machine.rows):
                for p in lefts:
                    for q in rights:
                        if table[p][q] == state:
                            return j, p, q, less
        return None

    def state_sizes(self, state):
        """The set of the sizes of the terms of a state, as start, period, members and rests."""
        check_number(state, "state", 0, self.machine.states - 1)
        return told_set([states >> state & 1 for states in self._states])
