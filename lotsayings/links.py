"""The codes of states of single sayings: numbers of places, and of arrows from one lot to another one."""

from lotsayings.cuts import folded
from lotsayings.roles import SOURCE, TARGET, Roles

# So many codes are hung beside the hole of contexts, and so many contexts are tried at most.
SIDE_CODES = 24
MOST_CONTEXTS = 600


class CountCodes:
    """The number of places in a lot, cut by (t, d), is the code; a is accepted."""

    def __init__(self, bench, row, a, t, d):
        self.row = row
        self.starts = len(bench.starts)
        self.joins = len(bench)
        self.cuts = (a, t, d)

    def leaf_codes(self):
        """The codes of the leaves."""
        _, t, d = self.cuts
        return [folded(many, t, d) for many in self.row] * self.starts

    def join_codes(self, codes, at):
        """The codes of the shell of the found code with number at."""
        _, t, d = self.cuts
        sums = codes[:at] + codes[:at + 1]
        return [folded(codes[at] + code, t, d) for code in sums for _ in range(self.joins)]

    def accepts(self, code):
        """Whether a code is accepted."""
        return code == self.cuts[0]


class ArrowCodes:
    """The number of arrows from one lot to another one, and of the places that play each live kind of role.

    A code is a row of these numbers, all cut by (t, d), the number of arrows first; a is accepted. A context is
    such a row, too: the number of arrows in it, and for each live kind how many arrows a place of this kind in the
    hole gets to or from places of the context.
    """

    def __init__(self, bench, rows, a, t, d):
        self.roles = Roles(bench, max(rows[0]), max(rows[1]))
        self.starts = bench.starts
        self.rows = rows
        self.joins = len(bench)
        self.cuts = (a, t, d)

    def accepts(self, code):
        """Whether a code is accepted."""
        return code[0] == self.cuts[0]

    def cut_row(self, row):
        """The row cut by (t, d)."""
        _, t, d = self.cuts
        return tuple([number if number < t else t + (number - t) % d for number in row])

    def code_of(self, row):
        """The code of a row; if further arrows change nothing, the other numbers do not matter."""
        _, t, d = self.cuts
        if d == 1 and row[0] >= t:
            return (t,) + (0,) * (len(row) - 1)
        return self.cut_row(row)

    def leaf_codes(self):
        """The codes of the leaves."""
        codes = []
        for label in self.starts:
            for number in range(len(self.rows[0])):
                row = [0] * (self.roles.kept + 1)
                for side in (SOURCE, TARGET):
                    kind = self.roles.kind_of((side, label))
                    row[kind] = row[kind] + self.rows[side][number]
                row[0] = 0
                codes.append(self.code_of(row))
        return codes

    def join_codes(self, codes, at):
        """The codes of the shell of the found code with number at."""
        last = codes[at]
        joins = range(self.joins)
        on_right = [self.gains(j, last, True) for j in joins]
        on_left = [self.gains(j, last, False) for j in joins]
        low = [self.joined(j, code, last, dot(code, on_right[j])) for code in codes[:at] for j in joins]
        return low + [self.joined(j, last, code, dot(code, on_left[j])) for code in codes[:at + 1] for j in joins]

    def joined(self, j, left, right, arrows):
        """The code of a join, with so many arrows between its parts."""
        row = [0] * len(left)
        for kind, number in enumerate(left):
            goal = self.roles.lefts[j][kind]
            row[goal] = row[goal] + number
        for kind, number in enumerate(right):
            goal = self.roles.rights[j][kind]
            row[goal] = row[goal] + number
        row[0] = left[0] + right[0] + arrows
        return self.code_of(row)

    def gains(self, j, code, on_right):
        """How many arrows a place of each kind gets by the join with a part of this code on the told side."""
        row = [0] * len(code)
        for left, right in self.roles.pairs[j]:
            if on_right:
                row[left] = row[left] + code[right]
            else:
                row[right] = row[right] + code[left]
        return row

    def within(self, context, j, code, on_right):
        """The context with, in its hole, a new hole joined with a part of this code on the told side."""
        lefts = self.roles.lefts[j]
        rights = self.roles.rights[j]
        mine, others = (lefts, rights) if on_right else (rights, lefts)
        row = self.gains(j, code, on_right)
        for kind in range(1, len(row)):
            row[kind] = row[kind] + reach(context, mine[kind])
        arrows = [number * reach(context, others[kind]) for kind, number in enumerate(code) if kind > 0]
        row[0] = context[0] + code[0] + sum(arrows)
        return self.cut_row(row)

    def suits(self, context, code):
        """Whether the context with a part of this code in its hole is accepted."""
        return self.cut_row([context[0] + code[0] + dot(context, code)])[0] == self.cuts[0]


def reach(context, kind):
    """How many arrows a place of a kind in the hole of a context gets."""
    return context[kind] if kind else 0


def dot(code, row):
    """The sum of the products of the numbers of two rows, the first of each left aside."""
    return sum([code[kind] * row[kind] for kind in range(1, len(code))])


def some_contexts(spec, codes):
    """Some contexts, each as a row, that parts of these codes make around a hole."""
    first = (0,) * len(codes[0])
    found = [first]
    seen = {first: True}
    at = 0
    while at < len(found) and len(found) < MOST_CONTEXTS:
        for code in codes[:SIDE_CODES]:
            for j in range(spec.joins):
                for on_right in (True, False):
                    context = spec.within(found[at], j, code, on_right)
                    if context not in seen:
                        seen[context] = True
                        found.append(context)
        at += 1
    return found


def told_apart(spec, codes):
    """How many of the codes some contexts tell apart, one from each other."""
    contexts = some_contexts(spec, codes)
    return len(set([tuple([spec.suits(context, code) for context in contexts]) for code in codes]))
