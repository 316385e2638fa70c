import unittest
from itertools import product

from lotsayings.benches import Bench
from lotsayings.compiler import machine_of
from lotsayings.errors import BadNumber, BadTerm, OtherTracks, TooMany
from lotsayings.machines import Machine
from lotsayings.narrow import Narrow
from lotsayings.tables import LeastSizes, least_size
from lotsayings.terms import hung, size_of
from tests.helpers import (
    BENCHES, all_lots, chance_machine, chance_term, counting_machine, refused, seeded, with_bit,
)
from tests.test_growth import chance_growing, rising_machine, two_circles
from tests.test_narrow import chance_word, leaf_states
from tests.test_prices import sparse_machine

ROWS = Bench.narrow_rows()
TREES = Bench.trees()
LEAF = (0, ())
LETTER = (0, 0, ())
NEAR = ("all", "x", ("or", ("in", "x", "X"), ("or", ("to", "x", "X"), ("to", "X", "x"))))


class LeastSizeTest(unittest.TestCase):
    def test_all_lots(self):
        chance = seeded(1281)
        empty = 0
        for turn in range(120):
            bench = BENCHES[turn % len(BENCHES)]
            machine = chance_machine(chance, bench, chance.randint(1, 2), chance.randint(1, 5))
            machine = machine.accepting(machine.accepted[:1])
            term = chance_term(chance, bench, chance.randint(1, 7), machine.many - 1)
            sizes = [
                len(lot) for lot in all_lots(size_of(term)) if machine.answers(with_bit(term, machine.many - 1, lot))
            ]
            self.assertEqual(least_size(machine, term), min(sizes, default=None))
            empty += not sizes
        self.assertGreater(empty, 5)

    def test_great_terms(self):
        near = machine_of(NEAR, TREES)
        self.assertEqual(least_size(near, hung(LEAF, LEAF, times=199)), 1)
        row = LEAF
        for _ in range(199):
            row = (0, LEAF, row)
        self.assertEqual(least_size(near, row), 67)
        narrow = LEAF
        for _ in range(199):
            narrow = (0, narrow, LEAF)
        self.assertEqual(least_size(machine_of(NEAR, ROWS), narrow), 67)

    def test_refusals_in_their_order(self):
        refused(self, OtherTracks, lambda: least_size(chance_machine(seeded(1282), TREES, 0, 2), "no"))
        machine = chance_machine(seeded(1283), TREES, 2, 2)
        for wrong, path in ((LEAF, ()), (None, ()), ((0, (0, (1,)), LEAF), (1,))):
            refused(self, BadTerm, lambda: least_size(machine, wrong), path)


def first_sizes(narrow, leaf):
    """The row of least sizes of a first leaf, None as a great number."""
    row = [10 ** 9] * narrow.machine.states
    for bit, state in enumerate(leaf_states(narrow.machine, leaf)):
        if state in narrow.live:
            row[state] = min(row[state], bit)
    return tuple(row)


def next_sizes(narrow, row, letter):
    """The row of least sizes of a word with a letter more."""
    found = [10 ** 9] * len(row)
    table = narrow.machine.rows[letter[0]]
    for bit, q in enumerate(leaf_states(narrow.machine, letter[1:])):
        for p in narrow.live:
            if table[p][q] in narrow.live and row[p] < 10 ** 9:
                found[table[p][q]] = min(found[table[p][q]], row[p] + bit)
    return tuple(found)


def capped(row, cap):
    return tuple(number if number == 10 ** 9 else min(number, cap) for number in row)


def told_row(row):
    return tuple(None if number == 10 ** 9 else number for number in row)


def least_of(narrow, row):
    return min([row[state] for state in narrow.machine.accepted], default=10 ** 9)


def all_rows(narrow, cap, most):
    """The capped rows of all words in layers by the number of letters, or more than most of them."""
    layers = [{capped(first_sizes(narrow, leaf), cap) for leaf in narrow.firsts}]
    met = set(layers[0])
    while layers[-1] and len(met) <= most:
        made = {capped(next_sizes(narrow, row, letter), cap) for row in layers[-1] for letter in narrow.letters}
        layers.append(made - met)
        met |= made
    return layers, met


def product_by_hand(one, two):
    size = range(len(one))
    return tuple(tuple(min(max(one[p][r], two[r][q]) for r in size) for q in size) for p in size)


def turned_by_hand(table):
    size = range(len(table))
    grown = {0: 0, 1: 2, 2: 2, 3: 3}
    return tuple(
        tuple(min(max(table[p][r], grown[table[r][r]], table[r][q]) for r in size) for q in size) for p in size
    )


def closure_by_hand(narrow, most):
    """All tables of point 141, or more than most of them."""
    found = set()
    live = narrow.live
    for letter in narrow.letters:
        states = leaf_states(narrow.machine, letter[1:])
        table = narrow.machine.rows[letter[0]]
        found.add(tuple(
            tuple(0 if table[p][states[0]] == q else 1 if table[p][states[1]] == q else 3 for q in live) for p in live
        ))
    done = 0
    while done != len(found) and len(found) <= most:
        done = len(found)
        for one, two in product(sorted(found), repeat=2):
            found.add(product_by_hand(one, two))
        for table in sorted(found):
            if product_by_hand(table, table) == table:
                found.add(turned_by_hand(table))
    return found


def bounded_by_hand(narrow, closure):
    live = narrow.live
    for table in closure:
        for leaf in narrow.firsts:
            entries = [
                max(bit, table[live.index(p)][live.index(q)])
                for bit, p in enumerate(leaf_states(narrow.machine, leaf)) if p in live
                for q in narrow.machine.accepted if q in live
            ]
            if min(entries, default=3) == 2:
                return False
    return True


class LeastSizesTest(unittest.TestCase):
    def check(self, machine, by_hand=True):
        try:
            told = LeastSizes(machine)
        except TooMany as error:
            self.assertEqual(error.which, "tables")
            if by_hand and len(Narrow(machine).live) < 4:
                self.assertGreater(len(closure_by_hand(Narrow(machine), 300)), 300)
            return None
        narrow = told.narrow
        if by_hand:
            closure = closure_by_hand(narrow, 40)
            if len(closure) <= 40:
                self.assertIs(told.bounded, bounded_by_hand(narrow, closure))
        if not told.bounded:
            self.assertEqual((told.greatest, told.top, told.size_rows), (None, None, None))
            self.check_pumped(told, narrow)
            return told
        for times in (1, 2, 3):
            self.assertIsNone(told.pumped(times))
        if not narrow.live:
            self.assertEqual((told.greatest, told.top, told.size_rows), (None, None, None))
            return told
        try:
            greatest = told.greatest
        except TooMany as error:
            self.assertEqual(error.which, "rows")
            return told
        _, met = all_rows(narrow, greatest + 1, 300)
        known = [least_of(narrow, row) for row in met]
        self.assertEqual(max(number for number in known if number < 10 ** 9), greatest)
        self.assertEqual(told.size_rows, tuple(told_row(row) for row in sorted(met)))
        leaf, letters = told.top
        self.assertIsInstance(letters, tuple)
        self.assertEqual(least_size(machine, narrow.word(leaf, letters)), greatest)
        return told

    def check_pumped(self, told, narrow):
        for times in (1, 2, 3):
            layers, met = all_rows(narrow, times, 300)
            if len(met) > 300:
                refused(self, TooMany, lambda: told.pumped(times), "rows")
                continue
            leaf, letters = told.pumped(times)
            self.assertIsInstance(letters, tuple)
            self.assertGreaterEqual(least_size(narrow.machine, narrow.word(leaf, letters)), times)
            fits = [any(times <= least_of(narrow, row) < 10 ** 9 for row in layer) for layer in layers]
            self.assertEqual(fits.index(True), len(letters))
        # Numbers above 3 come, too: the least sizes have no bound.
        layers, met = all_rows(narrow, 8, 3000)
        if len(met) <= 3000:
            self.assertTrue(any(least_of(narrow, row) == 8 for row in met))

    def test_chance_machines(self):
        chance = seeded(1284)
        kinds = {}
        for turn in range(300):
            if turn % 2:
                machine = sparse_machine(chance, BENCHES[turn % 5], 1, chance.randint(2, 5), chance.choice([0.3, 0.6]))
            else:
                machine = chance_growing(chance, turn)
            told = self.check(machine)
            kind = None if told is None else (told.bounded, len(told.narrow.live) > 0)
            kinds[kind] = kinds.get(kind, 0) + 1
        self.assertGreater(min(kinds[True, True], kinds[True, False]), 20, kinds)
        self.assertGreater(kinds[False, True], 5, kinds)

    def test_greatest(self):
        chance = seeded(1285)
        met = set()
        for turn in range(300):
            told = self.check(rising_machine(chance, BENCHES[turn % 4], 1, chance.randint(4, 7)), False)
            if told is not None and told.bounded:
                try:
                    met.add(told.greatest)
                except TooMany:
                    met.add("many")
        self.assertTrue({None, 0, 1, 2} <= met, met)

    def test_compiled_machines(self):
        wanted = {
            ("not", ("in", "X", "none")): 1, ("in", "X", "every"): 0, ("count", "X", 3, 4, 1): 3,
            ("count", "X", 1, 1, 2): 1, ("to", "X", "X"): 2, ("in", "every", "X"): None, NEAR: None,
            ("or", ("in", "every", "X"), ("in", "X", "none")): 0, ("not", ("to", ("-", "every", "X"), "every")): None,
        }
        for saying, greatest in wanted.items():
            told = self.check(machine_of(saying, ROWS))
            self.assertEqual((told.bounded, told.greatest), (greatest is not None, greatest))
        nothing = self.check(machine_of(("in", "every", "none"), ROWS, names=["X"]))
        self.assertEqual((nothing.bounded, nothing.greatest), (True, None))

    def test_words_of_growing_sizes(self):
        told = LeastSizes(machine_of(NEAR, ROWS))
        for letters in range(12):
            row = told.row_of(LEAF, [LETTER] * letters)
            known = [row[state] for state in told.narrow.machine.accepted if row[state] is not None]
            self.assertEqual(min(known, default=None), letters // 3 + 1)
        self.assertEqual(len(told.pumped(3)[1]), 6)
        names = ["Y", "X"]
        marked = LeastSizes(machine_of(("in", "Y", "X"), ROWS, names=names))
        self.assertFalse(marked.bounded)
        self.assertEqual([len(marked.pumped(times)[1]) for times in (1, 2, 3)], [0, 1, 2])

    def test_rows(self):
        chance = seeded(1286)
        for turn in range(100):
            machine = chance_growing(chance, turn)
            try:
                told = LeastSizes(machine)
            except TooMany:
                continue
            narrow = told.narrow
            leaf, letters = chance_word(chance, narrow, chance.randint(0, 6))
            row = first_sizes(narrow, leaf)
            for letter in letters:
                row = next_sizes(narrow, row, letter)
            self.assertEqual(told.row_of(leaf, letters), told_row(row))
            self.assertEqual(told.row_of(leaf, tuple(letters)), told_row(row))
            known = [number for number in [told_row(row)[state] for state in narrow.machine.accepted] if number is not None]
            self.assertEqual(least_size(narrow.machine, narrow.word(leaf, letters)), min(known, default=None))
        three = LeastSizes(machine_of(("in", "every", "X"), ROWS))
        self.assertEqual(three.row_of(LEAF, [LETTER] * 4000)[three.narrow.live[0]], 4001)

    def test_three_hundred_tables(self):
        told = LeastSizes(two_circles(12, 25))
        self.assertTrue(told.bounded)
        self.assertEqual((told.greatest, len(told.size_rows)), (1, 300))
        refused(self, TooMany, lambda: LeastSizes(two_circles(7, 43)), "tables")

    def test_three_hundred_rows(self):
        # With Y at the first place just one circle goes round: rows of its own, and no tables more.
        def circles(one, two):
            size = one + two + 1
            dead = size - 1
            rows = [[dead] * size for _ in range(size)]
            for x in range(one):
                rows[x][0] = (x + 1) % one
            for x in range(two):
                rows[one + x][0] = one + (x + 1) % two
            return Machine(ROWS, 2, ((0, 0, one, dead),), (tuple(map(tuple, rows)),), (0, one))
        told = LeastSizes(circles(12, 23))
        self.assertEqual((told.bounded, told.greatest, len(told.size_rows)), (True, 1, 276 + 12))
        told = LeastSizes(circles(12, 25))
        self.assertTrue(told.bounded)
        for name in ("greatest", "top", "size_rows"):
            refused(self, TooMany, lambda: getattr(told, name), "rows")
        self.assertIsNone(told.pumped(1))
        self.assertEqual(told.row_of((0, (1,)), [])[:2], (0, None))

    def test_rows_of_pumped(self):
        # Letters lead round two circles at once: those with Y count in the first one, the others in the second one.
        # The other three tracks of the first leaf tell how far the circles are apart, so there are many rows.
        wide = 8
        marks = [(y, shift) for shift in range(wide) for y in (0, 1)]
        size = 2 * wide + 2 * len(marks) + 1
        dead = size - 1
        state_of = {
            (y, shift, bit): 2 * wide + 2 * at + bit for at, (y, shift) in enumerate(marks) for bit in (0, 1)
        }
        rows = [[dead] * size for _ in range(size)]
        for (y, shift, bit), q in state_of.items():
            first = 0 if y == bit else wide
            for x in range(wide):
                rows[first + x][q] = first + (x + 1) % wide
        for (y, shift, bit), q in state_of.items():
            rows[q] = list(rows[shift if y == bit else wide])
        leaves = tuple(state_of[y, shift, bit] for bit in (0, 1) for shift in range(wide) for y in (0, 1))
        machine = Machine(ROWS, 5, (leaves,), (tuple(map(tuple, rows)),), (0, wide))
        told = LeastSizes(machine)
        self.assertFalse(told.bounded)
        counts = [len(all_rows(told.narrow, times, 1000)[1]) for times in (1, 2, 3)]
        self.assertLessEqual(counts[0], 300)
        self.assertGreater(counts[2], 300)
        self.check_pumped(told, told.narrow)
        refused(self, TooMany, lambda: told.pumped(3), "rows")
        refused(self, BadNumber, lambda: told.pumped(4), "times")

    def test_joined(self):
        chance = seeded(1287)
        checked = 0
        for turn in range(200):
            bench = BENCHES[turn % len(BENCHES)]
            one = sparse_machine(chance, bench, 1, chance.randint(2, 4), 0.5)
            two = rising_machine(chance, bench, 1, 4)
            try:
                told = [LeastSizes(machine) for machine in (one, two, one | two)]
                if told[0].bounded and told[1].bounded:
                    self.assertTrue(told[2].bounded)
                    known = [sizes.greatest for sizes in told[:2] if sizes.greatest is not None]
                    if told[2].greatest is not None:
                        self.assertLessEqual(told[2].greatest, max(known))
                        checked += 1
            except TooMany:
                continue
        self.assertGreater(checked, 20)

    def test_many_states(self):
        great = chance_machine(seeded(1288), ROWS, 1, 60)
        try:
            LeastSizes(great)
        except TooMany as error:
            self.assertEqual(error.which, "tables")
        self.assertFalse(LeastSizes(counting_machine(ROWS, 1, 1)).greatest)
        sums = LeastSizes(counting_machine(ROWS, 1, 12, 7))
        self.assertEqual((sums.bounded, sums.greatest), (True, 7))

    def test_refusals_in_their_order(self):
        refused(self, OtherTracks, lambda: LeastSizes(chance_machine(seeded(1289), TREES, 0, 2)))
        for saying in (("in", "every", "X"), ("in", "X", "none"), ("in", "every", "none")):
            told = LeastSizes(machine_of(saying, ROWS, names=["X"]))
            for times in (0, 4, -1, True, None, "1"):
                refused(self, BadNumber, lambda: told.pumped(times), "times")
            for leaf in ((0, (1,)), (0, [()]), (False, ()), None, LETTER):
                refused(self, BadNumber, lambda: told.row_of(leaf, "no"), "leaf")
            for letters in ("no", None, [LEAF], [(0, False, ())], [LETTER, (1, 0, ())], [list(LETTER)]):
                refused(self, BadNumber, lambda: told.row_of(LEAF, letters), "letters")


if __name__ == "__main__":
    unittest.main()
