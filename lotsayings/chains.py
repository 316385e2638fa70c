"""How the numbers of lots of words grow: double loops, links, and chains of links."""

from lotsayings.graphs import components, short_way

# Nodes of the ways besides the live states: START leads by the first leaves, accepted states lead to END.
START = -1
END = -2


class Ways:
    """The ways between the live states of narrow words.

    goals has for each state and each letter, of letters that lead alike just one, the states to which it leads.
    parts are the components of states that lead to each other, each behind those to which it leads.
    """

    def __init__(self, narrow):
        self.alive = narrow.live
        self.signs = narrow.unlike_letters()
        self.goals = {p: [[q for _, q in narrow.moves[sign][p]] for sign in self.signs] for p in self.alive}
        self.steps = {START: [(leaf, q) for leaf, pairs in narrow.begins.items() for _, q in pairs], END: []}
        for p in self.alive:
            self.steps[p] = [(sign, q) for sign, row in zip(self.signs, self.goals[p]) for q in row]
        self.parts = self.all_parts()
        self.further = {}
        for part in self.parts:
            self.note_further(part)
        for p in narrow.machine.accepted:
            if p in self.goals:
                self.steps[p].append((None, END))

    def all_parts(self):
        """The components of the states, each behind those to which it leads."""
        numbers = {state: number for number, state in enumerate(self.alive)}
        found = components([[numbers[q] for _, q in self.steps[state]] for state in self.alive])
        parts = {}
        for state, number in zip(self.alive, found):
            parts.setdefault(number, []).append(state)
        return [parts[number] for number in sorted(parts)]

    def note_further(self, part):
        """Keeps to which states those of a component lead, they themselves among them."""
        met = {state: True for state in part}
        for state in part:
            for _, goal in self.steps[state]:
                if goal not in met:
                    met.update(self.further[goal])
        for state in part:
            self.further[state] = met

    def leads_back(self, part):
        """Whether some letter leads from a state of a component to one of it."""
        return any([goal in part for state in part for _, goal in self.steps[state]])

    def way(self, p, q):
        """The letters of a shortest way from one state to another one, none from a state to itself."""
        return () if p == q else short_way(self.steps, p, q)

    def first_way(self, state):
        """A shortest word, a first leaf and letters, that leads to the state."""
        labels = short_way(self.steps, START, state)
        return labels[0], labels[1:]

    def last_way(self, state):
        """The letters of a shortest way from the state to an accepted one."""
        return short_way(self.steps, state, END)[:-1]

    def within(self, states):
        """The goals of these states, as far as they are among them."""
        inner = {state: True for state in states}
        found = {}
        for p in inner:
            found[p] = [list({q: True for q in row if q in inner}) for row in self.goals[p]]
        return found

    def find_double(self):
        """A state and letters that lead it to itself in two ways or more, None if there is none."""
        for part in self.parts:
            found = self.both_bits(part)
            if found is None and len(part) > 1:
                found = self.two_states(part)
            if found is not None:
                return found
        return None

    def both_bits(self, part):
        """The same, where both counted bits of one letter lead to one state, on a way through a component."""
        for p in part:
            for sign, row in zip(self.signs, self.goals[p]):
                for q in row:
                    if row.count(q) > 1 and q in part:
                        return p, (sign,) + self.way(q, p)
        return None

    def two_states(self, part):
        """The same, where the two ways come through unlike states of a component."""
        inner = self.within(part)
        crowd = Crowd(self.signs, (inner, inner), [(p, p) for p in part])
        numbers = components(crowd.all_goals())
        starts = {numbers[at]: node for at, node in enumerate(crowd.nodes) if node[0] == node[1]}
        for at, node in enumerate(crowd.nodes):
            if node[0] != node[1] and numbers[at] in starts:
                start = starts[numbers[at]]
                return start[0], crowd.way(start, node) + crowd.way(node, start)
        return None

    def find_link(self, part, other):
        """A link from a component to another one with its letters, None if there is none.

        The letters lead (p, p, q) to (p, q, q). To find whether some do for any p and q, all (p, q, q) are led on to
        (p, p, q): a circle through several of these steps has such letters, too.
        """
        between = [state for state in self.further[part[0]] if other[0] in self.further[state]]
        lists = (self.within(part), self.within(between), self.within(other))
        crowd = Crowd(self.signs, lists, [(p, p, q) for p in part for q in other])
        goals = crowd.all_goals()
        ends = [node for node in crowd.nodes if node[1] == node[2]]
        for p, _, q in ends:
            goals[crowd.numbers[p, q, q]].append(crowd.numbers[p, p, q])
        numbers = components(goals)
        for p, _, q in ends:
            if numbers[crowd.numbers[p, q, q]] == numbers[crowd.numbers[p, p, q]]:
                return (p, q), crowd.way((p, p, q), (p, q, q))
        return None

    def longest_chain(self):
        """The links of a chain of the most links, each with its letters, where no state has a double loop."""
        best = {}
        circles = []
        longest = ()
        for part in self.parts:
            chain = ()
            for _, goal in [step for state in part for step in self.steps[state]]:
                if len(best.get(goal, ())) > len(chain):
                    chain = best[goal]
            if self.leads_back(part):
                chain = self.linked(part, circles, best, chain)
                circles.append(part)
            for state in part:
                best[state] = chain
            if len(chain) > len(longest):
                longest = chain
        return longest

    def linked(self, part, circles, best, chain):
        """The chain, or one with more links that begins with a link of this component."""
        ahead = [other for other in circles if other[0] in self.further[part[0]]]
        for other in sorted(ahead, key=lambda circle: -len(best[circle[0]])):
            if len(best[other[0]]) < len(chain):
                return chain
            link = self.find_link(part, other)
            if link is not None:
                return (link,) + best[other[0]]
        return chain


class Crowd:
    """Rows of states that the same letters lead on, each state as the list at its place tells; from some rows on."""

    def __init__(self, signs, lists, starts):
        self.signs = signs
        self.nodes = list(starts)
        self.numbers = {node: number for number, node in enumerate(self.nodes)}
        self.steps = []
        while len(self.steps) < len(self.nodes):
            node = self.nodes[len(self.steps)]
            row = []
            for at, sign in enumerate(signs):
                rows = [()]
                for told, state in zip(lists, node):
                    rows = [known + (goal,) for known in rows for goal in told[state][at]]
                row.extend([(sign, self.number_for(goal)) for goal in rows])
            self.steps.append(row)

    def number_for(self, node):
        """The number of a row of states; a new one is kept."""
        if node not in self.numbers:
            self.numbers[node] = len(self.nodes)
            self.nodes.append(node)
        return self.numbers[node]

    def all_goals(self):
        """The numbers of the rows to which each row is led."""
        return [[goal for _, goal in row] for row in self.steps]

    def way(self, node, other):
        """The letters of a shortest way from one row of states to another one."""
        return short_way(self.steps, self.numbers[node], self.numbers[other])
