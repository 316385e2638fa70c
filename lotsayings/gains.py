"""The greatest gains of the terms of each state, or a loop that gains ever more.

A form is a row of integers here: a number for a place in each track, and behind them one for each place. The counts
of a term or a context are its numbers of places in each track, and behind them its size.
"""

from lotsayings.founds import Fewest, useful
from lotsayings.machines import bits_of
from lotsayings.spans import dot
from lotsayings.walks import context_around


def leaf_counts(leaf):
    """The counts of a leaf."""
    return leaf[1] + (1,)


def added(one, two):
    """The sums of two rows of counts."""
    return tuple([x + y for x, y in zip(one, two)])


class Gains:
    """The greatest gains for a least machine and a form, found in rounds.

    At first each useful state has a term of the fewest places; in each round come joins of what the states had
    before. If a state gains by steps that lead from itself, the context of these steps is a loop that gains. Without
    one there are no more rounds than states. Then looping is None, and worths has the greatest gain of each useful
    state; else looping is a triple of the context, its state, and its counts.
    """

    def __init__(self, machine, form):
        self.machine = machine
        self.form = form
        self.worths = {}
        self.parts = {}
        self.counts = {}
        self.rounds = []
        self.looping = None
        self.begin()
        changed = {state: True for state in self.worths}
        while changed and self.looping is None:
            changed = self.next_round(changed)

    def begin(self):
        """Gives each useful state a term of the fewest places, of several leaves the best one."""
        leaves = {}
        for label, row in zip(self.machine.bench.starts, self.machine.leaves):
            for number, state in enumerate(row):
                leaf = (label, bits_of(number, self.machine.many))
                if state not in leaves or self.gain_of(leaf) > self.gain_of(leaves[state]):
                    leaves[state] = leaf
        fewest = Fewest(self.machine)
        kept = useful(self.machine)
        for state in [state for state in fewest.settled if state in kept]:
            if state in leaves:
                self.keep(state, leaves[state], leaf_counts(leaves[state]))
            else:
                j, p, q = fewest.origins[state]
                self.keep(state, (j, self.parts[p], self.parts[q]), added(self.counts[p], self.counts[q]))

    def gain_of(self, leaf):
        """The gain of a leaf."""
        return dot(leaf_counts(leaf), self.form)

    def keep(self, state, term, counts):
        """Keeps a term with its counts for a state."""
        self.worths[state] = dot(counts, self.form)
        self.parts[state] = term
        self.counts[state] = counts

    def next_round(self, changed):
        """Keeps the best joins with a state that changed in the last round; the states that change by them."""
        ways = self.better_ways(changed)
        steps = {}
        kept = []
        for state, way in ways.items():
            _, _, j, p, q = way
            kept.append((state, (j, self.parts[p], self.parts[q]), added(self.counts[p], self.counts[q])))
            if p in changed:
                steps[state] = (p, (j, 0, self.parts[q]), self.counts[q])
            else:
                steps[state] = (q, (j, 1, self.parts[p]), self.counts[p])
        self.rounds.append(steps)
        for state, term, counts in kept:
            self.keep(state, term, counts)
        for state in steps:
            if self.looping is None:
                self.looping = self.loop_to(state)
        return {state: True for state in steps}

    def better_ways(self, changed):
        """For each state that gains the best join, of several the one with the fewest places.

        A join is told as the gain, the size below 0, the number of the join, and the two states.
        """
        worths = self.worths
        found = {}
        for j, table in enumerate(self.machine.rows):
            for p in worths:
                row = table[p]
                for q in worths if p in changed else changed:
                    state = row[q]
                    if state in worths and worths[p] + worths[q] > worths[state]:
                        way = (worths[p] + worths[q], -self.counts[p][-1] - self.counts[q][-1], j, p, q)
                        if state not in found or way[:2] > found[state][:2]:
                            found[state] = way
        return found

    def loop_to(self, state):
        """The loop that leads to what a state gained in the last round, None if it does not come from itself."""
        steps = []
        whole = (0,) * len(self.form)
        other = state
        for gained in self.rounds[::-1]:
            other, step, counts = gained[other]
            steps.append(step)
            whole = added(whole, counts)
            if other == state:
                return context_around(steps[::-1]), state, whole
        return None


class Dearest(Fewest):
    """For each useful state a term of the fewest places that has the greatest gain, where no loop gains."""

    def __init__(self, gains):
        self.known_gains = gains
        super().__init__(gains.machine)

    def offer(self, state, size, way):
        """Keeps a way to a useful state if it has the greatest gain and its size is less."""
        worths = self.known_gains.worths
        if state in worths:
            gain = self.known_gains.gain_of(way) if len(way) == 2 else worths[way[1]] + worths[way[2]]
            if gain == worths[state]:
                super().offer(state, size, way)
