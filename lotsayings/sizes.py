"""The sizes of fitting terms: sets of integers that repeat from some number on."""

from lotsayings.cuts import check_number, folded, is_int
from lotsayings.errors import TooMany
from lotsayings.leasts import least
from lotsayings.lots import lot_of_mask, mask_of
from lotsayings.machines import bits_of

MOST_REPEAT = 200
MOST_ASKED = 60

# 2 * MOST_REPEAT - 1: a row of this length tells each start and period that sum to MOST_REPEAT at most (see repeat_of).
LONGEST = 399


def repeat_of(row):
    """The start and the least period with which the states of all sizes repeat, None if the row does not tell them.

    The row has the states of the sizes up to some number. It tells all sizes if it repeats from a start s on with a
    period p and goes up to 2 * (s + p) - 2: of two sizes that sum to more, one is at least s + p, and with p less it
    has the same states; of two that sum to 2 * s - 1 or more, one is at least s, and with p more it has the same
    states. So each size behind the row joins what the size p less joins, and has the same states as that one.
    """
    half = (len(row) + 1) // 2
    tail = row[half:]
    for period in range(1, half):
        if row[half - period:-period] == tail:
            return start_of(row, half - period, period), period
    return None


def start_of(row, start, period):
    """The least index from which on the row repeats with the period; from start on it does."""
    while start > 0 and row[start - 1] == row[start - 1 + period]:
        start -= 1
    return start


def least_period(circle):
    """The least period of a row that comes again and again: it divides the length of the row."""
    for period in range(1, len(circle)):
        if len(circle) % period == 0 and circle[period:] == circle[:-period]:
            return period
    return len(circle)


def told_set(row, start):
    """The tuple (start, period, members, rests) of the set of the indices at which the row is not 0.

    What the row has from start on comes again and again behind it.
    """
    period = least_period(row[start:])
    start = start_of(row, start, period)
    members = [n for n in range(start) if row[n]]
    rests = sorted([n % period for n in range(start, start + period) if row[n]])
    return start, period, tuple(members), tuple(rests)


class States:
    """The states of the terms of each size, as numbers with the digit of 2^q for each state q.

    row[n] is that of the terms of n places, 0 for n = 0. repeat is the pair of the start from which on it repeats and
    the least period; the row ends with the first period. If start and period sum to more than MOST_REPEAT, TooMany is
    raised; more different numbers than that are enough to tell.
    """

    def __init__(self, machine):
        self.tables = machine.rows
        self.many = machine.states
        self.row = [0]
        self.places = {}
        self.unions = {}
        self.known = {}
        self.note(mask_of([state for leaves in machine.leaves for state in leaves]))
        self.repeat = self.repeat_found()
        self.row = self.row[:sum(self.repeat)]

    def repeat_found(self):
        """Start and period with which the row repeats; the row grows until it tells them."""
        while len(self.row) < LONGEST:
            self.grow(min(LONGEST, len(self.row) * 3 // 2))
            told = repeat_of(self.row)
            if told is not None:
                return told
        raise TooMany("sizes")

    def grow(self, length):
        """Adds the states of further sizes till the row has that length."""
        while len(self.row) < length:
            size = len(self.row)
            whole = 0
            for one, two in {pair: True for pair in zip(self.row[1:size // 2 + 1], self.row[::-1])}:
                whole |= self.joined(one, two)
            self.note(whole)

    def note(self, states):
        """Adds the states of the next size."""
        self.row.append(states)
        if states not in self.places:
            self.places[states] = lot_of_mask(states, self.many)
            if len(self.places) > MOST_REPEAT:
                raise TooMany("sizes")

    def joined(self, one, two):
        """All states of joins of terms with these states, in both orders."""
        if (one, two) not in self.known:
            whole = self.joined_so(one, two) | self.joined_so(two, one)
            self.known[one, two] = whole
            self.known[two, one] = whole
        return self.known[one, two]

    def joined_so(self, left, right):
        """All states of joins of terms with these states, in this order."""
        ways = self.rows_with(right)
        whole = 0
        for p in self.places[left]:
            whole |= ways[p]
        return whole

    def rows_with(self, right):
        """For each state on the left all states of joins with these states on the right."""
        if right not in self.unions:
            places = self.places[right]
            ways = []
            for p in range(self.many):
                whole = 0
                for table in self.tables:
                    for q in places:
                        whole |= 1 << table[p][q]
                ways.append(whole)
            self.unions[right] = ways
        return self.unions[right]

    def of_size(self, n):
        """The states of the terms of n places, as a number."""
        return self.row[folded(n, *self.repeat)]

    def told_with(self, states):
        """The set of the sizes of the terms of these states, which are given as a number."""
        return told_set([found & states != 0 for found in self.row], self.repeat[0])


class Sizes:
    """The set of the sizes of all fitting terms, and those of the terms of each state."""

    def __init__(self, machine):
        self.machine = least(machine)
        self._states = States(self.machine)
        self._told = self._states.told_with(mask_of(self.machine.accepted))

    @property
    def start(self):
        """The least number from which on the set repeats."""
        return self._told[0]

    @property
    def period(self):
        """The least period with which it repeats."""
        return self._told[1]

    @property
    def members(self):
        """The sizes below start."""
        return self._told[2]

    @property
    def rests(self):
        """The rests by the period of the sizes from start on."""
        return self._told[3]

    def __contains__(self, n):
        if not is_int(n) or n < 1:
            return False
        start, period, members, rests = self._told
        return n in members if n < start else n % period in rests

    def term(self, n):
        """A fitting term with n places, None if there is none."""
        check_number(n, "n", 1, MOST_ASKED)
        for state in self.machine.accepted:
            if self._states.of_size(n) >> state & 1:
                return self.term_of(state, n)
        return None

    def term_of(self, state, n):
        """A term of a state with n places; there is one."""
        if n == 1:
            for label, row in zip(self.machine.bench.starts, self.machine.leaves):
                if state in row:
                    return (label, bits_of(row.index(state), self.machine.many))
        j, p, q, less = self.parts_of(state, n)
        return (j, self.term_of(p, less), self.term_of(q, n - less))

    def parts_of(self, state, n):
        """A join that makes terms of a state with n places: its number, the states of its parts, the left size."""
        for less in range(1, n):
            lefts = self._states.places[self._states.of_size(less)]
            rights = self._states.places[self._states.of_size(n - less)]
            for j, table in enumerate(self.machine.rows):
                for p in lefts:
                    for q in rights:
                        if table[p][q] == state:
                            return j, p, q, less
        return None

    def state_sizes(self, state):
        """The set of the sizes of the terms of a state, as start, period, members and rests."""
        check_number(state, "state", 0, self.machine.states - 1)
        return self._states.told_with(1 << state)
