import unittest
from itertools import product

from lotsayings.benches import Bench
from lotsayings.compiler import machine_of
from lotsayings.errors import BadNumber, OtherTracks
from lotsayings.leasts import least
from lotsayings.machines import bits_number, bits_of
from lotsayings.narrow import Narrow
from lotsayings.numbers import number_of
from lotsayings.terms import all_terms, is_narrow, many_of, size_of
from tests.helpers import (
    BENCHES, NAMED, WIDE, all_lots, chance_machine, counting_machine, refused, seeded, with_bit,
)
from tests.test_prices import sparse_machine

ROWS = Bench.narrow_rows()
TREES = Bench.trees()


def leaf_states(machine, leaf):
    """The states of a first leaf with 0 and with 1 as the counted bit."""
    row = machine.leaves[machine.bench.starts.index(leaf[0])]
    return [row[bits_number(leaf[1] + (bit,))] for bit in (0, 1)]


def first_leaves(machine):
    return [(label, bits_of(k, machine.many - 1)) for label in machine.bench.starts for k in range(1 << machine.many - 1)]


def live_by_hand(machine):
    """The states that words lead to, and from which letters lead to accepted ones; of a least machine."""
    leaves = [leaf_states(machine, leaf) for leaf in first_leaves(machine)]
    steps = {(p, table[p][q]) for table in machine.rows for p in range(machine.states) for row in leaves for q in row}
    ahead = {state for row in leaves for state in row}
    behind = set(machine.accepted)
    for _ in range(machine.states):
        ahead |= {q for p, q in steps if p in ahead}
        behind |= {p for p, q in steps if q in behind}
    return tuple(sorted(ahead & behind))


def chance_word(chance, narrow, length):
    return chance.choice(narrow.firsts), [chance.choice(narrow.letters) for _ in range(length)]


def narrow_machines(seed, many):
    """Machines of all benches, with few live states some of them."""
    chance = seeded(seed)
    for turn in range(many):
        bench = BENCHES[turn % len(BENCHES)]
        tracks = 1 + (turn % 3 == 0)
        if turn % 2:
            yield sparse_machine(chance, bench, tracks, chance.randint(2, 6), chance.choice([0.3, 0.5, 0.7]))
        else:
            yield chance_machine(chance, bench, tracks, chance.randint(1, 4))


class NarrowTest(unittest.TestCase):
    def test_leaves_and_letters_in_order(self):
        machine = chance_machine(seeded(1261), WIDE, 3, 4)
        narrow = Narrow(machine)
        leaves = [(label, bits) for label in (0, 2) for bits in ((0, 0), (1, 0), (0, 1), (1, 1))]
        self.assertEqual(narrow.firsts, tuple(leaves))
        self.assertEqual(narrow.letters, tuple((j,) + leaf for j in range(3) for leaf in leaves))
        self.assertEqual(narrow.machine, least(machine))
        bare = Narrow(machine_of(("in", "X", "X"), Bench.cotrees()))
        self.assertEqual((bare.firsts, bare.letters), (((0, ()),), ((0, 0, ()), (1, 0, ()))))

    def test_live(self):
        many = set()
        for machine in narrow_machines(1262, 80):
            narrow = Narrow(machine)
            self.assertEqual(narrow.live, live_by_hand(narrow.machine))
            many.add(len(narrow.live))
        self.assertGreater(len(many), 3)

    def test_rows_and_ways(self):
        for machine in narrow_machines(1263, 60):
            narrow = Narrow(machine)
            whole, live = narrow.machine, narrow.live
            for leaf in narrow.firsts:
                states = leaf_states(whole, leaf)
                row = tuple(states.count(q) if q in live else 0 for q in range(whole.states))
                self.assertEqual(narrow.first_row(leaf), row)
            for letter in narrow.letters:
                states = leaf_states(whole, letter[1:])
                for p, q in product(range(whole.states), repeat=2):
                    ways = [whole.rows[letter[0]][p][x] for x in states].count(q)
                    told = ways if p in live and q in live else 0
                    self.assertEqual(narrow.ways(letter)[p][q], told)

    def test_words(self):
        chance = seeded(1264)
        for machine in narrow_machines(1265, 60):
            narrow = Narrow(machine)
            leaf, letters = chance_word(chance, narrow, chance.randint(0, 6))
            term = narrow.word(leaf, letters)
            self.assertTrue(is_narrow(term))
            self.assertEqual((size_of(term), many_of(term)), (len(letters) + 1, machine.many - 1))
            part = term
            for letter in letters[::-1]:
                self.assertEqual((part[0],) + part[2], letter)
                part = part[1]
            self.assertEqual(part, leaf)
            self.assertEqual(narrow.total(leaf, letters), number_of(machine, term))
            self.assertEqual(narrow.total(leaf, tuple(letters)), number_of(machine, term))
            fits = [lot for lot in all_lots(size_of(term)) if machine.answers(with_bit(term, machine.many - 1, lot))]
            self.assertEqual(narrow.total(leaf, letters), len(fits))

    def test_words_are_the_narrow_terms(self):
        for bench in NAMED.values():
            narrow = Narrow(counting_machine(bench, 1, 2))
            for size in (1, 2, 3, 4):
                words = [narrow.word(leaf, letters) for leaf in narrow.firsts
                         for letters in product(narrow.letters, repeat=size - 1)]
                self.assertEqual(sorted(words), sorted(term for term in all_terms(bench, size) if is_narrow(term)))

    def test_great_words(self):
        apart = Narrow(machine_of(("not", ("to", "X", "X")), ROWS))
        leaf, letter = (0, ()), (0, 0, ())
        one, two = 1, 2
        for _ in range(199):
            one, two = two, one + two
        self.assertEqual(apart.total(leaf, [letter] * 199), two)
        self.assertEqual(size_of(apart.word(leaf, [letter] * 199)), 200)
        self.assertEqual(number_of(apart.machine, apart.word(leaf, (letter,) * 199)), two)
        refused(self, BadNumber, lambda: apart.word(leaf, [letter] * 200), "letters")
        refused(self, BadNumber, lambda: apart.word((0, (1,)), [letter] * 200), "leaf")
        self.assertEqual(apart.total(leaf, [letter] * 200), one + two)
        free = Narrow(machine_of(("in", "X", "X"), ROWS))
        self.assertEqual(free.total(leaf, [letter] * 3000), 2 ** 3001)
        single = Narrow(machine_of(("count", "X", 1, 2, 1), ROWS))
        self.assertEqual(single.total(leaf, [letter] * 5000), 5001)

    def test_wrong_leaves_and_letters(self):
        narrow = Narrow(machine_of(("in", "X", "Y"), ROWS, names=["Y", "X"]))
        leaf, letter = (0, (1,)), (0, 0, (0,))
        calls = (lambda one, two: narrow.word(one, two), lambda one, two: narrow.total(one, two))
        leaves = ((0, (2,)), (1, (0,)), (0, ()), (0, [1]), [0, (1,)], (False, (1,)), (0, (True,)), letter, None, "no", ())
        for wrong in leaves:
            refused(self, BadNumber, lambda: narrow.first_row(wrong), "leaf")
            for call in calls:
                refused(self, BadNumber, lambda: call(wrong, "no"), "leaf")
        letters = (
            (0, 0, (2,)), (1, 0, (0,)), (0, 1, (0,)), (0, 0, ()), [0, 0, (0,)], (0, 0, [0]), (False, 0, (0,)), (0, True, (0,)),
            (0, 0, (False,)), leaf, None, 7, (),
        )
        for wrong in letters:
            refused(self, BadNumber, lambda: narrow.ways(wrong), "letter")
            for call in calls:
                refused(self, BadNumber, lambda: call(leaf, [letter, wrong]), "letters")
        for wrong in ("no", None, 7, {letter: 1}, letter):
            for call in calls:
                refused(self, BadNumber, lambda: call(leaf, wrong), "letters")
        self.assertEqual(narrow.word(leaf, []), leaf)
        self.assertEqual(narrow.word(leaf, ()), leaf)
        self.assertEqual(narrow.total(leaf, ()), 2)

    def test_no_track(self):
        refused(self, OtherTracks, lambda: Narrow(chance_machine(seeded(1266), TREES, 0, 2)))


if __name__ == "__main__":
    unittest.main()
