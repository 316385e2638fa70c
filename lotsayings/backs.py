"""From machines on trees back to plain sayings."""

from lotsayings.cuts import is_between
from lotsayings.errors import BadName, BadNumber, NotWeb, TooMany
from lotsayings.forms import check_on_trees, place_states
from lotsayings.hanging import is_web_machine
from lotsayings.leasts import least
from lotsayings.lots import ALL_PLACES, NO_PLACE, is_name
from lotsayings.rings import ring, run_in
from lotsayings.sayings import both_of, either_of

MOST_RING = 6
MOST_RUN_IN = 4
MOST_CODED = 5
MOST_ENTRIES = 32


def back(machine, names, *, d=None):
    """The plain saying that means what the machine answers, its counts by d (None: by the ring)."""
    check_on_trees(machine)
    check_free(names)
    if len(names) != machine.many:
        raise BadNumber("names")
    if not is_web_machine(machine):
        raise NotWeb()
    whole = least(machine)
    steps = ring(whole)
    counts = steps if d is None else d
    if not is_between(counts, 1, MOST_RING) or counts % steps != 0:
        raise BadNumber("d")
    run = run_in(whole)
    if run > MOST_RUN_IN:
        raise TooMany("run_in")
    if whole.states > MOST_CODED or entries_needed(whole, run + counts) > MOST_ENTRIES:
        raise TooMany("entries")
    return Back(whole, names, run, counts).saying()


def check_free(names):
    """BadName for what is no name, stands among names twice or begins with Z or z."""
    for at, name in enumerate(names):
        if not is_name(name) or name in names[:at] or name[0] in ("Z", "z"):
            raise BadName(name)


def entries_needed(whole, cuts):
    """How many entries there are, if numbers of children are cut to so many integers."""
    entries = 1 << whole.many
    for _ in range(whole.states):
        entries = entries * cuts
    return entries


def code_names(states):
    """The code names of a machine with so many states."""
    return ["Z" + str(i) for i in range((states - 1).bit_length())]


def coded(number, names):
    """The expression of the places that are in the lot of the i-th name exactly if the digit of 2^i is 1."""
    expression = ALL_PLACES
    for i, name in enumerate(names):
        expression = ("&" if number >> i & 1 else "-", expression, name)
    return expression


def all_tuples(length, below):
    """All tuples of so many integers from 0 on and less than below, the first one the slowest."""
    found = [()]
    for _ in range(length):
        found = [row + (last,) for row in found for last in range(below)]
    return found


class Back:
    """Writes the saying of a least machine on trees, with its run-in and the told counts."""

    def __init__(self, whole, names, run, counts):
        self.whole = whole
        self.names = names
        self.cuts = (run, counts)
        self.codes = code_names(whole.states)

    def saying(self):
        """The saying: for some lots for the code names all places have their states, and the root an accepted one."""
        entries = self.entries()
        told = ("and", ("all", "z", either_of(*entries)), self.root_accepted())
        for name in self.codes[::-1]:
            told = ("some", name, told)
        return told

    def entries(self):
        """What a place can be: its bits, its state, and how many children have each state."""
        run, counts = self.cuts
        numbers = all_tuples(self.whole.states, run + counts)
        letters = range(1 << self.whole.many)
        return [self.entry(letter, row) for letter in letters for row in numbers]

    def entry(self, letter, numbers):
        """The entry for a place with these bits and these numbers of children."""
        state = self.whole.leaves[0][letter]
        arrows = []
        for other, number in enumerate(numbers):
            for _ in range(number):
                state = self.whole.rows[0][state][other]
            arrows.append(("arrows", "z", coded(other, self.codes), number) + self.cuts)
        place = ("in", "z", ("&", coded(letter, self.names), coded(state, self.codes)))
        return both_of(place, *arrows)

    def root_accepted(self):
        """The saying that the place without an arrow to it has an accepted state."""
        lot = NO_PLACE
        for state in self.whole.accepted:
            lot = ("|", lot, coded(state, self.codes))
        return ("some", "z", ("and", ("not", ("to", ALL_PLACES, "z")), ("in", "z", lot)))


def code_lots(machine, term):
    """For each code name of the least machine the places whose state has its digit."""
    check_on_trees(machine)
    whole = least(machine)
    states = place_states(whole, term)
    digits = range(len(code_names(whole.states)))
    return tuple([tuple([place for place, state in enumerate(states) if state >> i & 1]) for i in digits])
