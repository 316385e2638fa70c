"""How the greatest number of fitting lots grows with the words."""

from lotsayings.chains import END, START, Ways
from lotsayings.cuts import check_number
from lotsayings.errors import TooMany
from lotsayings.graphs import short_way
from lotsayings.narrow import Narrow

MOST_TIMES = 6
MOST_ROWS = 300


class Growth:
    """The kind of growth of a machine on narrow words, and what shows it."""

    KINDS = ("none", "bounded", "power", "double")

    def __init__(self, machine):
        self.narrow = Narrow(machine)
        self._ways = Ways(self.narrow)
        self._double = self._ways.find_double()
        self._chain = () if self._double is not None else self._ways.longest_chain()
        self._rows = None
        self._greatest = None
        if self.kind == "bounded":
            self._rows = tuple(sorted(all_number_rows(self.narrow)))
            self._greatest = max([self.narrow.number_at(row) for row in self._rows])

    @property
    def kind(self):
        """One of KINDS."""
        if not self.narrow.live:
            return "none"
        if self._double is not None:
            return "double"
        return "power" if self._chain else "bounded"

    @property
    def links(self):
        """The most links of a chain, None if there are no words or some state has a double loop."""
        if not self.narrow.live or self._double is not None:
            return None
        return len(self._chain)

    @property
    def chain(self):
        """A chain of the most links."""
        return tuple([link for link, _ in self._chain])

    @property
    def double_loop(self):
        """A state and letters that lead it to itself in two ways or more, None if there is none."""
        return self._double

    @property
    def number_rows(self):
        """All number rows of words, ascending; None if the numbers are not bounded."""
        self.check_rows()
        return self._rows

    @property
    def greatest(self):
        """The greatest number of a word, None if the numbers are not bounded."""
        self.check_rows()
        return self._greatest

    def check_rows(self):
        """TooMany if there are more number rows than are told."""
        if self._rows is not None and len(self._rows) > MOST_ROWS:
            raise TooMany("rows")

    def pumped(self, times):
        """A word with a number that is great for so many times, as a first leaf and letters; None if there are none."""
        check_number(times, "times", 1, MOST_TIMES)
        if not self.narrow.live:
            return None
        ways = self._ways
        if self._double is not None:
            state, letters = self._double
            leaf, begun = ways.first_way(state)
            return leaf, begun + letters * times + ways.last_way(state)
        if not self._chain:
            labels = short_way(ways.steps, START, END)
            return labels[0], labels[1:-1]
        leaf, whole = ways.first_way(self._chain[0][0][0])
        state = self._chain[0][0][0]
        for link, letters in self._chain:
            whole = whole + ways.way(state, link[0]) + letters * times
            state = link[1]
        return leaf, whole + ways.last_way(state)


def all_number_rows(narrow):
    """The number rows of all words, or one more than MOST_ROWS of them."""
    found = {narrow.first_row(leaf): True for leaf in narrow.firsts}
    todo = list(found)
    letters = narrow.unlike_letters()
    while todo and len(found) <= MOST_ROWS:
        row = todo.pop()
        for letter in letters:
            longer = narrow.next_row(row, letter)
            if longer not in found:
                found[longer] = True
                todo.append(longer)
    return list(found)
