"""The tables of letters, closed under products and turning.

A table has for two live states 0, 1, 2 or 3. It is told by three tuples, for the bounds 0, 1 and 2: each has a
number for each live state p, with the digit of 2^k if the entry of p and the k-th live state is within the bound.
"""

from lotsayings.errors import TooMany

MOST_TABLES = 300
BOUNDS = (0, 1, 2)
GROWN = 2


def united(rows, mask):
    """The digits of all rows whose numbers are the digits of the mask."""
    whole = 0
    while mask:
        digit = mask & -mask
        whole |= rows[digit.bit_length() - 1]
        mask ^= digit
    return whole


class Factor:
    """A table as the second one in products; what rows are united for a mask is kept for further products."""

    def __init__(self, table):
        self.rows = table
        self.unions = [{} for _ in BOUNDS]

    def product(self, other):
        """The product of another table and this one."""
        levels = []
        for bound in BOUNDS:
            unions = self.unions[bound]
            for mask in other[bound]:
                if mask not in unions:
                    unions[mask] = united(self.rows[bound], mask)
            levels.append(tuple([unions[mask] for mask in other[bound]]))
        return tuple(levels)


def is_steady(table):
    """Whether the product of a table with itself is the table."""
    for rows in table:
        for mask in rows:
            if united(rows, mask) != mask:
                return False
    return True


def turned(table):
    """A steady table turned."""
    middle = []
    for bound in BOUNDS:
        # What is 0 at a state stays 0, what is 1 or 2 has grown to 2.
        kept = table[GROWN] if bound == GROWN else table[0]
        middle.append(tuple([mask & 1 << at for at, mask in enumerate(kept)]))
    return Factor(table).product(Factor(middle).product(table))


def letter_table(rows, live):
    """The table of a letter; rows has for each state the pairs of a counted bit and a live state."""
    numbers = {state: at for at, state in enumerate(live)}
    levels = []
    for bound in BOUNDS:
        masks = []
        for p in live:
            mask = 0
            for bit, q in rows[p]:
                if bit <= bound:
                    mask |= 1 << numbers[q]
            masks.append(mask)
        levels.append(tuple(masks))
    return tuple(levels)


class Closure:
    """All tables; each one is a product of generators, which are those of letters and the turned ones."""

    def __init__(self, tables):
        self.found = {}
        self.order = []
        self.makers = []
        self.done = []
        for table in tables:
            self.make_with(table)
        at = 0
        while at < len(self.order):
            self.turn(self.order[at])
            at += 1
            if at == len(self.order):
                self.multiply()

    def note(self, table):
        """Keeps a table, if it is a new one."""
        if table not in self.found:
            self.found[table] = True
            self.order.append(table)
            if len(self.order) > MOST_TABLES:
                raise TooMany("tables")

    def make_with(self, table):
        """Keeps a table that is a generator, if it is a new one."""
        if table not in self.found:
            self.note(table)
            self.makers.append(Factor(table))
            self.done.append(0)

    def turn(self, table):
        """Turns a table, if it is steady."""
        if is_steady(table):
            self.make_with(turned(table))

    def multiply(self):
        """Multiplies all tables with all generators, as far as this was not done."""
        for at, maker in enumerate(self.makers):
            while self.done[at] < len(self.order):
                self.note(maker.product(self.order[self.done[at]]))
                self.done[at] += 1
