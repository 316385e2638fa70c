"""The codes of states from which the steps between machines are made.

Each class tells the codes of leaves and of joins to shells.explored, and changes nothing. Leaves are told as one
row here: starts in order, then by the number of bits.
"""


def in_one_row(leaves):
    """The rows of leaves of all starts, one after the other."""
    return [state for row in leaves for state in row]


class StateCodes:
    """The states of a machine as codes of themselves: what is found are the reached states."""

    def __init__(self, leaves, rows):
        self.row = in_one_row(leaves)
        self.tables = rows
        self.joins = len(rows)

    def leaf_codes(self):
        """The codes of the leaves."""
        return self.row

    def join_codes(self, codes, at):
        """The codes of the shell of the found code with number at."""
        last = codes[at]
        low = [table[p][last] for p in codes[:at] for table in self.tables]
        return low + [table[last][q] for q in codes[:at + 1] for table in self.tables]


class PairCodes:
    """The pairs of states of two machines; the pair of p and q has the code p * wide + q."""

    def __init__(self, one, two):
        self.left = one
        self.right = two
        self.wide = two.states
        self.joins = len(one.rows)

    def leaf_codes(self):
        """The codes of the leaves."""
        row = in_one_row(self.right.leaves)
        return [p * self.wide + q for p, q in zip(in_one_row(self.left.leaves), row)]

    def join_codes(self, codes, at):
        """The codes of the shell of the found code with number at."""
        wide = self.wide
        tables = list(zip(self.left.rows, self.right.rows))
        pairs = [(code // wide, code % wide) for code in codes[:at + 1]]
        p, q = pairs[at]
        low = [one[x][p] * wide + two[y][q] for x, y in pairs[:at] for one, two in tables]
        return low + [one[p][x] * wide + two[q][y] for x, y in pairs for one, two in tables]


class SetCodes:
    """Sets of states without a track; the set has the digit of 2^x in its code for each state x in it."""

    def __init__(self, machine, track):
        self.doubled = doubled(machine.leaves, track)
        self.tables = machine.rows
        self.joins = len(machine.rows)
        self.reach = list(range(machine.states))

    def leaf_codes(self):
        """The codes of the leaves."""
        return [1 << p | 1 << q for p, q in self.doubled]

    def join_codes(self, codes, at):
        """The codes of the shell of the found code with number at."""
        sets = [self.spread(code) for code in codes[:at + 1]]
        last = sets[at]
        behind = [[united([1 << row[q] for q in last]) for row in table] for table in self.tables]
        ahead = [[united([1 << table[p][q] for p in last]) for q in self.reach] for table in self.tables]
        low = [united([way[p] for p in part]) for part in sets[:at] for way in behind]
        return low + [united([way[q] for q in part]) for part in sets for way in ahead]

    def spread(self, code):
        """The states in the set with that code."""
        return [x for x in self.reach if code >> x & 1]


def united(masks):
    """The number with each digit that one of the masks has."""
    whole = 0
    for mask in masks:
        whole = whole | mask
    return whole


class RowCodes:
    """Number rows without a track, by d: tuples with a rest by d for each state.

    A row that is added up is packed into one number, with so many binary digits for each state that no sum
    overflows: so the sums of a shell take one product for each state, not one for each pair of states.
    """

    def __init__(self, machine, track, d):
        self.doubled = doubled(machine.leaves, track)
        self.tables = machine.rows
        self.joins = len(machine.rows)
        self.reach = list(range(machine.states))
        self.d = d
        self.digits = (machine.states * machine.states * d * d).bit_length()

    def leaf_codes(self):
        """The codes of the leaves."""
        return [tuple([((x == p) + (x == q)) % self.d for x in self.reach]) for p, q in self.doubled]

    def join_codes(self, codes, at):
        """The codes of the shell of the found code with number at."""
        last = codes[at]
        units = [1 << self.digits * x for x in self.reach]
        behind = [[summed(last, [units[x] for x in row]) for row in table] for table in self.tables]
        ahead = [[summed(last, [units[row[q]] for row in table]) for q in self.reach] for table in self.tables]
        low = [self.unpacked(summed(row, way)) for row in codes[:at] for way in behind]
        return low + [self.unpacked(summed(row, way)) for row in codes[:at + 1] for way in ahead]

    def unpacked(self, packed):
        """The number row, by d, of a packed one."""
        whole = (1 << self.digits) - 1
        return tuple([(packed >> self.digits * x & whole) % self.d for x in self.reach])


def summed(numbers, parts):
    """The sum of the products of the numbers and the parts, one by one."""
    return sum([number * part for number, part in zip(numbers, parts) if number])


def doubled(leaves, track):
    """For each leaf without a track the pair of its states with 0 and with 1 in that track."""
    low = (1 << track) - 1
    pairs = []
    for row in leaves:
        for bits in range(len(row) // 2):
            none = bits & low | (bits & ~low) << 1
            pairs.append((row[none], row[none | 1 << track]))
    return pairs
