"""The rows of numbers that terms have at the useful states of machines, and a base of all such rows.

Rows are lists of integers here, one for all machines: the useful states of the first machine come first. To join two
rows is linear in each of them, so what holds for a base holds for the rows of all terms.
"""

from lotsayings.founds import useful
from lotsayings.fractions import first_not_zero, in_lowest
from lotsayings.machines import bits_of
from lotsayings.quotients import columns_of
from lotsayings.walks import context_around, postfix


def dot(one, two):
    """The sum of the products of two rows."""
    return sum([x * y for x, y in zip(one, two) if x])


def lessened(rest, row):
    """A base of the combinations of independent rows that make 0 with the row told, None if all of them do."""
    products = [dot(other, row) for other in rest]
    at = first_not_zero(products)
    if at is None:
        return None
    found = []
    for i, other in enumerate(rest):
        if i != at and products[i] == 0:
            found.append(other)
        elif i != at:
            found.append(in_lowest([products[at] * x - products[i] * y for x, y in zip(other, rest[at])]))
    return found


def mixed(rows):
    """A combination of rows with unlike numbers: what makes 0 with it makes 0 with each row, but for rare chances."""
    times = [1 + at * 7919 % 101 for at in range(len(rows))]
    return [dot(times, column) for column in columns_of(rows)]


def units(width):
    """The rows with one 1 and else 0."""
    return [[1 if at == place else 0 for at in range(width)] for place in range(width)]


class Rows:
    """The rows of the terms without the counted track, for least machines of one bench with as many tracks.

    weights has the weights of places outside and inside of the lots. pairs_of[j][p] has for each q the state x of the
    join of p and q, as pairs (q, x), all of them useful; accepted has the accepted states of each machine.
    """

    def __init__(self, machines, weights):
        self.bench = machines[0].bench
        self.wide = 1 << machines[0].many - 1
        self.weights = weights
        kept = [useful(machine) for machine in machines]
        self.width = sum([len(states) for states in kept])
        self.leaves = {}
        for label in self.bench.starts:
            for k in range(self.wide):
                self.leaves[label, bits_of(k, machines[0].many - 1)] = [0] * self.width
        self.accepted = []
        self.pairs_of = [[] for _ in self.bench.joins]
        start = 0
        for machine, states in zip(machines, kept):
            self.add_machine(machine, {state: start + at for at, state in enumerate(states)})
            start += len(states)

    def add_machine(self, machine, numbers):
        """Adds a machine; numbers has the number of each of its useful states among those of all machines."""
        self.accepted.append([numbers[state] for state in machine.accepted])
        for j, table in enumerate(machine.rows):
            for p in numbers:
                row = table[p]
                kept = [(number, numbers[row[q]]) for q, number in numbers.items() if row[q] in numbers]
                self.pairs_of[j].append(kept)
        for bit, weight in enumerate(self.weights):
            for leaf, state in zip(list(self.leaves), self.half_of(machine, bit)):
                if state in numbers:
                    self.leaves[leaf][numbers[state]] += weight

    def half_of(self, machine, bit):
        """The states of the leaves with this bit in the counted track, starts in order, then numbers of bits."""
        start = bit * self.wide
        return [state for row in machine.leaves for state in row[start:start + self.wide]]

    def joined(self, j, left, right):
        """The row of a join of terms with these rows."""
        row = [0] * self.width
        for p, number in enumerate(left):
            if number:
                for q, x in self.pairs_of[j][p]:
                    if right[q]:
                        row[x] += number * right[q]
        return row

    def of_term(self, term):
        """The row of a term."""
        rows = []
        for step in postfix(term):
            if isinstance(step, tuple):
                rows.append(self.leaves[step])
            else:
                right = rows.pop()
                rows.append(self.joined(step, rows.pop(), right))
        return rows[0]

    def before(self, j, view, side, row):
        """The row that makes with each row what the view makes with its join with the row told.

        The row told stands on the right (side 0) or on the left (side 1).
        """
        found = [0] * self.width
        for p, pairs in enumerate(self.pairs_of[j]):
            if side == 0:
                found[p] = sum([row[q] * view[x] for q, x in pairs])
            elif row[p]:
                for q, x in pairs:
                    found[q] += row[p] * view[x]
        return found

    def numbers_at(self, row):
        """The weighted numbers of the lots that fit, one for each machine."""
        return tuple([sum([row[state] for state in states]) for states in self.accepted])


class Span:
    """Terms whose rows are a base of the rows of all terms, terms with few places first.

    rest holds a base of the rows that make 0 with all rows so far. The rows of leaves are joined with each row on
    either side; when this gives nothing new, one row after the other is joined with those kept before it: what is a
    combination then stays one. To find what is none, this is done with a mixed row first, and in the end with all.
    """

    def __init__(self, rows):
        self.algebra = rows
        self.found = []
        self.rest = units(rows.width)
        for leaf, row in rows.leaves.items():
            self.offer(1, leaf, row)
        self.leaves = list(self.found)
        self.hang_leaves(0)
        for exact in (False, True):
            at = 0
            while at < len(self.found) and self.rest:
                pair = self.pair_outside(at, self.rest if exact else [mixed(self.rest)])
                if pair is None:
                    at += 1
                else:
                    done = len(self.found)
                    self.offer_join(*pair)
                    self.hang_leaves(done)
        self.found = sorted(self.found, key=lambda told: told[0])

    def offer(self, size, term, row):
        """Keeps a term with its row if the row is no combination of those kept."""
        rest = lessened(self.rest, row)
        if rest is not None:
            self.rest = rest
            self.found.append((size, term, row))

    def offer_join(self, j, one, two):
        """Keeps the join of two of those kept, if it is independent of them."""
        self.offer(one[0] + two[0], (j, one[1], two[1]), self.algebra.joined(j, one[2], two[2]))

    def hang_leaves(self, done):
        """Joins the leaves with all that was kept from the number done on, till nothing new comes."""
        while done < len(self.found) and self.rest:
            one = self.found[done]
            for leaf in self.leaves:
                for j in range(len(self.algebra.pairs_of)):
                    self.offer_join(j, one, leaf)
                    self.offer_join(j, leaf, one)
            done += 1

    def pair_outside(self, at, views):
        """A join and two of those kept, number at and one up to it, whose join does not make 0 with some view."""
        last = self.found[at]
        for view in views:
            for j in range(len(self.algebra.pairs_of)):
                right = self.algebra.before(j, view, 0, last[2])
                left = self.algebra.before(j, view, 1, last[2])
                for one in self.found[:at + 1]:
                    if dot(right, one[2]) != 0:
                        return j, one, last
                    if dot(left, one[2]) != 0:
                        return j, last, one
        return None


class Views:
    """Contexts whose numbers at terms tell those in all contexts, for one machine.

    A view is a row that makes with the row of a term the number in a context. rest holds a base of the rows of terms
    that make 0 with all views so far. As in a span, leaves are hung first, then all terms on one context after the
    other.
    """

    def __init__(self, span):
        self.algebra = span.algebra
        self.span = span
        self.found = []
        self.rest = [row for _, _, row in span.found]
        accepted = self.algebra.accepted[0]
        self.offer(0, (), [1 if state in accepted else 0 for state in range(self.algebra.width)])
        self.hang_leaves(0)
        for exact in (False, True):
            at = 0
            while at < len(self.found) and self.rest:
                way = self.way_outside(self.found[at], self.rest if exact else [mixed(self.rest)])
                if way is None:
                    at += 1
                else:
                    done = len(self.found)
                    self.offer_around(*way)
                    self.hang_leaves(done)

    def offer(self, size, steps, view):
        """Keeps a context, by its steps from the top to the hole, if its view is independent of those kept."""
        rest = lessened(self.rest, view)
        if rest is not None:
            self.rest = rest
            self.found.append((size, steps, view))

    def offer_around(self, one, j, side, told):
        """Keeps the context one with, in its hole, a hole beside a term, if it is independent."""
        view = self.algebra.before(j, one[2], side, told[2])
        self.offer(one[0] + told[0], one[1] + ((j, side, told[1]),), view)

    def hang_leaves(self, done):
        """Puts leaves beside the holes of all that was kept from the number done on, till nothing new comes."""
        while done < len(self.found) and self.rest:
            one = self.found[done]
            for leaf in self.span.leaves:
                for j in range(len(self.algebra.pairs_of)):
                    for side in (0, 1):
                        self.offer_around(one, j, side, leaf)
            done += 1

    def way_outside(self, one, rows):
        """A context kept and a step around its hole with which it does not make 0 with some row, None without one."""
        for row in rows:
            for j in range(len(self.algebra.pairs_of)):
                for side in (0, 1):
                    view = self.algebra.before(j, one[2], 1 - side, row)
                    for told in self.span.found:
                        if dot(view, told[2]) != 0:
                            return one, j, side, told
        return None

    def numbers_at(self, row):
        """The numbers in the contexts kept of a term with this row."""
        return tuple([dot(view, row) for _, _, view in self.found])

    def told_contexts(self):
        """The contexts kept."""
        return [context_around(steps[::-1]) for _, steps, _ in self.found]
