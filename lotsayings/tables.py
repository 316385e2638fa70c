"""The least sizes of fitting lots of words: whether they stay below some number."""

from lotsayings.closure import GROWN, Closure, letter_table
from lotsayings.cuts import check_number
from lotsayings.errors import TooMany
from lotsayings.narrow import Narrow
from lotsayings.numbers import both_states, check_tracks
from lotsayings.terms import check_term
from lotsayings.walks import postfix

MOST_TIMES = 3
MOST_ROWS = 300


def least_size(machine, term):
    """The least number of places of a fitting lot, None if no lot fits."""
    check_tracks(machine)
    check_term(machine.bench, term, machine.many - 1)
    parts = []
    for step in postfix(term):
        if isinstance(step, tuple):
            ways = [(state, bit) for bit, state in enumerate(both_states(machine, step))]
        else:
            right = parts.pop()
            left = parts.pop()
            table = machine.rows[step]
            ways = [(table[p][q], x + y) for p, x in left.items() for q, y in right.items()]
        parts.append(least_of_ways(ways))
    return min([parts[0][state] for state in machine.accepted if state in parts[0]], default=None)


def least_of_ways(ways):
    """A dict from the states of ways to their least numbers."""
    found = {}
    for state, number in ways:
        if state not in found or number < found[state]:
            found[state] = number
    return found


def row_by(ways, states, cap):
    """The row of the least numbers of ways for all states, None without one; numbers above cap are set to it."""
    found = least_of_ways(ways)
    if cap is not None:
        found = {state: min(number, cap) for state, number in found.items()}
    return tuple([found.get(state) for state in range(states)])


class SizeRows:
    """The rows of least sizes of all words, numbers above cap set to cap, or one more than MOST_ROWS of them.

    A row stands behind all those of words with fewer letters; origins tells the first leaf or letter that made each
    one, and the number of the row ahead of it or None.
    """

    def __init__(self, narrow, cap):
        self.narrow = narrow
        self.cap = cap
        self.numbers = {}
        self.order = []
        self.origins = []
        for leaf in narrow.firsts:
            self.note(first_sizes(narrow, leaf, cap), (leaf, None))
        letters = narrow.unlike_letters()
        at = 0
        while at < len(self.order) and not self.too_many():
            for letter in letters:
                self.note(next_sizes(narrow, self.order[at], letter, cap), (letter, at))
            at += 1

    def note(self, row, origin):
        """Keeps a row, if it is a new one."""
        if row not in self.numbers and not self.too_many():
            self.numbers[row] = len(self.order)
            self.order.append(row)
            self.origins.append(origin)

    def too_many(self):
        """Whether there are more rows than are told."""
        return len(self.order) > MOST_ROWS

    def leasts(self):
        """The least sizes of all rows, None where no lot fits."""
        accepted = self.narrow.machine.accepted
        rows = [[row[state] for state in accepted if row[state] is not None] for row in self.order]
        return [min(numbers, default=None) for numbers in rows]

    def first_from(self, least):
        """The number of the first row with at least this least size, None if there is none."""
        for at, number in enumerate(self.leasts()):
            if number is not None and number >= least:
                return at
        return None

    def word_of(self, at):
        """The first leaf and the letters of a word with this row."""
        letters = []
        sign, before = self.origins[at]
        while before is not None:
            letters.append(sign)
            sign, before = self.origins[before]
        return sign, tuple(letters[::-1])


def first_sizes(narrow, leaf, cap):
    """The row of least sizes of a first leaf."""
    return row_by([(q, bit) for bit, q in narrow.begins[leaf]], narrow.machine.states, cap)


def next_sizes(narrow, row, letter, cap):
    """The row of least sizes of a word with this row and a letter more."""
    ways = []
    for number, pairs in zip(row, narrow.moves[letter]):
        if number is not None:
            ways.extend([(q, number + bit) for bit, q in pairs])
    return row_by(ways, len(row), cap)


def none_last(rows, last):
    """The rows in ascending order, None counted as a number above all others."""
    kept = sorted([tuple([last if number is None else number for number in row]) for row in rows])
    return tuple([tuple([None if number == last else number for number in row]) for row in kept])


class LeastSizes:
    """Whether the least sizes of all words with a fitting lot stay below some number, and the greatest of them."""

    def __init__(self, machine):
        self.narrow = Narrow(machine)
        live = self.narrow.live
        moves = [self.narrow.moves[letter] for letter in self.narrow.unlike_letters()]
        closure = Closure([letter_table(rows, live) for rows in moves])
        self._bounded = not any([self.grows(table, leaf) for table in closure.order for leaf in self.narrow.firsts])
        self._too_many = False
        self._greatest = None
        self._top = None
        self._rows = None
        if self._bounded and live:
            self.find_greatest()

    def find_greatest(self):
        """Finds the greatest least size: the first one that no least size is above."""
        greatest = 0
        rows = SizeRows(self.narrow, 1)
        while not rows.too_many() and rows.first_from(greatest + 1) is not None:
            greatest += 1
            rows = SizeRows(self.narrow, greatest + 1)
        if rows.too_many():
            self._too_many = True
        else:
            self._greatest = greatest
            self._top = rows.word_of(rows.first_from(greatest))
            self._rows = none_last(rows.order, greatest + 2)

    def grows(self, table, leaf):
        """Whether the least entry of a table for a first leaf is 2."""
        live = self.narrow.live
        accepted = 0
        for at, state in enumerate(live):
            if state in self.narrow.machine.accepted:
                accepted |= 1 << at
        starts = [live.index(state) for _, state in self.narrow.begins[leaf]]
        within = [any([table[bound][p] & accepted for p in starts]) for bound in (GROWN - 1, GROWN)]
        return within == [False, True]

    def check_rows(self):
        """TooMany if there are more rows of least sizes than are told."""
        if self._too_many:
            raise TooMany("rows")

    @property
    def bounded(self):
        """Whether the least sizes stay below some number."""
        return self._bounded

    @property
    def greatest(self):
        """The greatest least size, None if there is none."""
        self.check_rows()
        return self._greatest

    @property
    def top(self):
        """A word of the greatest least size, None if there is none."""
        self.check_rows()
        return self._top

    @property
    def size_rows(self):
        """All rows of least sizes, numbers above greatest set to greatest + 1; None if there is no greatest."""
        self.check_rows()
        return self._rows

    def row_of(self, leaf, letters):
        """The row of least sizes of a word."""
        self.narrow.check_word(leaf, letters)
        row = first_sizes(self.narrow, leaf, None)
        for letter in letters:
            row = next_sizes(self.narrow, row, letter, None)
        return row

    def pumped(self, times):
        """A word of the fewest letters whose fitting lots all have so many places; None if the sizes are bounded."""
        check_number(times, "times", 1, MOST_TIMES)
        if self._bounded:
            return None
        rows = SizeRows(self.narrow, times)
        if rows.too_many():
            raise TooMany("rows")
        return rows.word_of(rows.first_from(times))
