"""Narrow terms as words: a first leaf and letters, each of which joins a leaf on the right."""

from lotsayings.cuts import is_int
from lotsayings.errors import BadNumber
from lotsayings.leasts import least
from lotsayings.machines import bits_of
from lotsayings.numbers import both_states, check_tracks

MOST_LETTERS = 199


def are_plain(value):
    """Whether value is a tuple of integers and one tuple of integers behind them."""
    if not isinstance(value, tuple) or not value or not isinstance(value[-1], tuple):
        return False
    return all([is_int(number) for number in value[:-1] + value[-1]])


class Narrow:
    """The first leaves and letters of narrow terms without the counted track, and where they lead the least machine.

    begins has for each first leaf the pairs (b, q) of a counted bit and the live state to which it leads; moves has
    for each letter a tuple with such pairs for each state, none for a state that is not live.
    """

    def __init__(self, machine):
        check_tracks(machine)
        self.machine = least(machine)
        self.begins = {}
        many = self.machine.many - 1
        for label in self.machine.bench.starts:
            for k in range(1 << many):
                leaf = (label, bits_of(k, many))
                self.begins[leaf] = tuple(enumerate(both_states(self.machine, leaf)))
        self.moves = {}
        for j, table in enumerate(self.machine.rows):
            for leaf, pairs in self.begins.items():
                self.moves[(j,) + leaf] = tuple([tuple([(b, row[q]) for b, q in pairs]) for row in table])
        self._live = self.live_states()
        self.leave_live()
        self._firsts = tuple(self.begins)
        self._letters = tuple(self.moves)

    def live_states(self):
        """The states that some word leads to and that letters lead from to an accepted state, ascending."""
        goals = [[] for _ in range(self.machine.states)]
        sources = [[] for _ in range(self.machine.states)]
        for rows in self.moves.values():
            for p, pairs in enumerate(rows):
                for _, q in pairs:
                    goals[p].append(q)
                    sources[q].append(p)
        ahead = come_to([q for pairs in self.begins.values() for _, q in pairs], goals)
        behind = come_to(self.machine.accepted, sources)
        return tuple(sorted([state for state in ahead if state in behind]))

    def leave_live(self):
        """Leaves aside all ways from and to states that are not live."""
        live = {state: True for state in self._live}
        for leaf, pairs in list(self.begins.items()):
            self.begins[leaf] = tuple([(b, q) for b, q in pairs if q in live])
        for letter, rows in list(self.moves.items()):
            kept = [tuple([(b, q) for b, q in pairs if q in live and p in live]) for p, pairs in enumerate(rows)]
            self.moves[letter] = tuple(kept)

    @property
    def live(self):
        """The live states, ascending."""
        return self._live

    @property
    def firsts(self):
        """The first leaves: starts in order, then by the number of bits."""
        return self._firsts

    @property
    def letters(self):
        """The letters: joins in order, then as the first leaves."""
        return self._letters

    def check_leaf(self, leaf):
        """BadNumber unless it is a first leaf."""
        if not are_plain(leaf) or leaf not in self.begins:
            raise BadNumber("leaf")

    def check_word(self, leaf, letters):
        """BadNumber unless these are a first leaf and a tuple or list of letters."""
        self.check_leaf(leaf)
        if not isinstance(letters, (list, tuple)):
            raise BadNumber("letters")
        for letter in letters:
            if not are_plain(letter) or letter not in self.moves:
                raise BadNumber("letters")

    def first_row(self, leaf):
        """The number row of a first leaf."""
        self.check_leaf(leaf)
        row = [0] * self.machine.states
        for _, q in self.begins[leaf]:
            row[q] += 1
        return tuple(row)

    def next_row(self, row, letter):
        """The number row of a word with this number row and a letter more."""
        found = [0] * len(row)
        for number, pairs in zip(row, self.moves[letter]):
            if number:
                for _, q in pairs:
                    found[q] += number
        return tuple(found)

    def ways(self, letter):
        """For all states p, q in how many ways the letter leads p to q, if both are live."""
        if not are_plain(letter) or letter not in self.moves:
            raise BadNumber("letter")
        states = list(range(self.machine.states))
        goals = [[q for _, q in pairs] for pairs in self.moves[letter]]
        return tuple([tuple([row.count(q) for q in states]) for row in goals])

    def word(self, leaf, letters):
        """The narrow term that begins with the leaf and goes on by the letters."""
        self.check_word(leaf, letters)
        if len(letters) > MOST_LETTERS:
            raise BadNumber("letters")
        term = leaf
        for j, label, bits in letters:
            term = (j, term, (label, bits))
        return term

    def total(self, leaf, letters):
        """The number of fitting lots of the word."""
        self.check_word(leaf, letters)
        row = self.first_row(leaf)
        for letter in letters:
            row = self.next_row(row, letter)
        return self.number_at(row)

    def number_at(self, row):
        """The number of a word with this number row."""
        return sum([row[state] for state in self.machine.accepted])

    def unlike_letters(self):
        """The letters that lead unlike, the first one of those that lead alike."""
        found = {}
        for letter, rows in self.moves.items():
            found.setdefault(rows, letter)
        return list(found.values())


def come_to(states, goals):
    """A dict of True for all states to which goals lead from some states, these among them."""
    met = {state: True for state in states}
    todo = list(met)
    while todo:
        state = todo.pop()
        for goal in goals[state]:
            if goal not in met:
                met[goal] = True
                todo.append(goal)
    return met
