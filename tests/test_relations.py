import unittest
from fractions import Fraction

from lotsayings.benches import Bench
from lotsayings.compiler import machine_of
from lotsayings.errors import BadNumber, BadTerm, OtherBench, OtherTracks, TooMany
from lotsayings.fractions import kernel, rank_of
from lotsayings.leasts import least
from lotsayings.machines import Machine
from lotsayings.numbers import number_of
from lotsayings.relations import Relations, as_many
from lotsayings.terms import check_term, size_of
from tests.helpers import (
    BENCHES, chance_machine, chance_term, counting_machine, refused, seeded, small_terms,
)

TREES = Bench.trees()
LEAF = (0, ())


def terms_for(chance, bench, many):
    """Terms of small sizes, all of them, and some greater ones."""
    found = list(small_terms(bench, 4 if len(bench) == 1 and not many else 2, many))
    return found + [chance_term(chance, bench, size, many) for size in (5, 6, 8, 12)]


class RelationsTest(unittest.TestCase):
    def check_told(self, chance, machines, inside, outside):
        told = Relations(machines, inside=inside, outside=outside)
        bench = machines[0].bench
        many = machines[0].many - 1
        self.assertEqual(told.machines, tuple(machines))
        self.assertEqual((told.rank, len(told.terms), rank_of(told.told_rows)), (len(told.told_rows),) * 3)
        for term, row in zip(told.terms, told.told_rows):
            check_term(bench, term, many)
            self.assertEqual(told.row_of(term), row)
        self.assertEqual(told.base, kernel(told.told_rows, len(machines)))
        self.assertEqual(len(told.base), len(machines) - told.rank)
        for term in terms_for(chance, bench, many):
            row = tuple(number_of(machine, term, inside=inside, outside=outside) for machine in machines)
            self.assertEqual(told.row_of(term), row)
            share = told.share_of(term)
            self.assertEqual(len(share), told.rank)
            for at, number in enumerate(row):
                parts = [Fraction(*pair) * line[at] for pair, line in zip(share, told.told_rows)]
                self.assertEqual(sum(parts), number)
            for numbers in told.base:
                self.assertEqual(sum(x * y for x, y in zip(numbers, row)), 0)
        return told

    def check_judged(self, chance, told):
        """holds and broken_at for combinations of the base and for chance integers."""
        for turn in range(6):
            numbers = [chance.randint(-3, 3) for _ in told.machines]
            if turn % 2:
                numbers = [0] * len(numbers)
                for row in told.base:
                    times = chance.randint(-10 ** 30, 10 ** 30)
                    numbers = [number + times * entry for number, entry in zip(numbers, row)]
            sums = [sum(x * y for x, y in zip(numbers, row)) for row in told.told_rows]
            self.assertIs(told.holds(numbers), not any(sums))
            self.assertIs(told.holds(tuple(numbers)), not any(sums))
            term = told.broken_at(numbers)
            self.assertIs(term is None, not any(sums))
            if term is not None:
                self.assertNotEqual(sums[told.terms.index(term)], 0)
            if turn % 2:
                self.assertTrue(told.holds(numbers))

    def test_chance_machines(self):
        chance = seeded(961)
        ranks = set()
        for turn in range(60):
            bench = BENCHES[turn % len(BENCHES)]
            many = chance.randint(1, 2)
            states = chance.randint(1, 4)
            machines = [chance_machine(chance, bench, many, states) for _ in range(1 + turn % 6)]
            if len(machines) > 2:
                machines[2] = machines[0] | machines[1]
            if len(machines) > 3:
                machines[3] = machines[0] & machines[1]
            inside, outside = chance.choice([(1, 1), (0, 1), (1, 0), (-1, 1), (2, -3), (9, 9), (0, 0), (-9, 4)])
            told = self.check_told(chance, machines, inside, outside)
            self.check_judged(chance, told)
            ranks.add(told.rank)
            turned = Relations(machines, inside=-inside, outside=-outside)
            self.assertEqual((turned.base, turned.rank), (told.base, told.rank))
            if len(machines) > 3:
                self.assertTrue(told.holds([1, 1, -1, -1] + [0] * (len(machines) - 4)))
        self.assertTrue({0, 1, 2, 3, 4} <= ranks, ranks)

    def test_fewer_terms_tell_less(self):
        sayings = [("in", "none", "X"), ("count", "X", 1, 2, 1), ("count", "X", 0, 1, 1), ("not", ("to", "X", "X"))]
        told = Relations([machine_of(saying, TREES) for saying in sayings])
        self.assertEqual((told.rank, told.base), (4, ()))
        for left in range(4):
            rows = told.told_rows[:left] + told.told_rows[left + 1:]
            numbers = kernel(rows, 4)[0]
            self.assertFalse(told.holds(numbers))
            self.assertEqual(told.broken_at(numbers), told.terms[left])

    def test_sayings(self):
        one = machine_of(("in", "none", "X"), TREES)
        apart = machine_of(("not", ("to", "X", "X")), TREES)
        near = machine_of(("to", "X", "X"), TREES)
        told = Relations([one, apart, near])
        self.assertEqual(told.base, ((-1, 1, 1),))
        self.assertEqual(Relations([one, apart, near], inside=0).rank, 1)
        self.assertTrue(Relations([one, apart], inside=0, outside=7).holds((1, -1)))

    def test_rows_of_zeros(self):
        chance = seeded(962)
        nothing = chance_machine(chance, TREES, 2, 3).accepting(())
        told = Relations((nothing, nothing))
        self.assertEqual((told.terms, told.rank, told.told_rows), ((), 0, ()))
        self.assertEqual(told.base, ((1, 0), (0, 1)))
        self.assertTrue(told.holds((10 ** 59, -3)))
        self.assertIsNone(told.broken_at((1, 1)))
        self.assertEqual(told.share_of((0, (1,))), ())
        whole = machine_of(("in", "none", "X"), TREES)
        self.assertEqual(Relations([whole], inside=0, outside=0).rank, 0)
        self.assertEqual(Relations([whole], inside=-3, outside=3).base, ((1,),))

    def test_sixty_states(self):
        for parts in ((60,), (29, 31), (10,) * 6):
            machines = [counting_machine(TREES, 1, d) for d in parts]
            told = Relations(machines)
            self.assertEqual(told.rank, len(set(parts)))
            more = machines[:-1] + [counting_machine(TREES, 1, parts[-1] + 1)]
            refused(self, TooMany, lambda: Relations(more, inside="no"), "states")
        for bench in BENCHES:
            machine = chance_machine(seeded(963), bench, 1, 60)
            self.assertEqual(least(machine).states, 60)
            self.assertEqual(Relations([machine], inside=9, outside=-9).rank, 1)

    def test_only_least_machines_count(self):
        same = tuple(tuple(0 for _ in range(300)) for _ in range(300))
        great = Machine(TREES, 1, ((0, 0),), (same,), (0,))
        self.assertEqual(Relations([great] * 6).rank, 1)

    def test_great_numbers(self):
        apart = machine_of(("not", ("to", "X", "X")), TREES)
        told = Relations([apart, counting_machine(TREES, 1, 2)], inside=9, outside=8)
        term = chance_term(seeded(964), TREES, 70, 0)
        row = told.row_of(term)
        shares = [Fraction(*pair) for pair in told.share_of(term)]
        for at in range(2):
            self.assertEqual(sum(x * line[at] for x, line in zip(shares, told.told_rows)), row[at])

    def test_refusals_in_their_order(self):
        chance = seeded(965)
        machine = chance_machine(chance, TREES, 1, 2)
        wide = chance_machine(chance, TREES, 2, 2)
        bare = chance_machine(chance, TREES, 0, 2)
        other = chance_machine(chance, Bench.boughs(), 0, 2)
        great = counting_machine(TREES, 1, 61)
        for machines in ((), [], (bare,) * 7, machine, None):
            refused(self, BadNumber, lambda: Relations(machines, inside=True), "machines")
        refused(self, OtherBench, lambda: Relations((machine, bare, other), inside=True))
        refused(self, OtherTracks, lambda: Relations((bare,), inside=True))
        refused(self, OtherTracks, lambda: Relations((great, wide), inside=True))
        refused(self, TooMany, lambda: Relations((great,), inside=True), "states")
        for wrong in (10, -10, True, None, "1"):
            refused(self, BadNumber, lambda: Relations((machine,), inside=wrong, outside=wrong), "inside")
            refused(self, BadNumber, lambda: Relations((machine,), outside=wrong), "outside")
        told = Relations([machine, machine])
        for wrong in ((1,), (1, 2, 3), (True, 1), (1, None), "11", None, {0: 1, 1: 1}):
            refused(self, BadNumber, lambda: told.holds(wrong), "numbers")
            refused(self, BadNumber, lambda: told.broken_at(wrong), "numbers")
        for call in (told.row_of, told.share_of):
            refused(self, BadTerm, lambda: call((0, LEAF, (0, (1,)))), (1,))
            refused(self, BadTerm, lambda: call(None), ())


class AsManyTest(unittest.TestCase):
    def test_as_many(self):
        one = machine_of(("count", "X", 1, 2, 1), TREES)
        root = machine_of(("and", ("in", "X", "Y"), ("count", "X", 1, 2, 1)), TREES, names=["Y", "X"])
        self.assertIsNone(as_many(one, ~~one))
        roots = machine_of(("and", ("count", "X", 1, 2, 1), ("not", ("to", "every", "X"))), TREES)
        empty = machine_of(("in", "X", "none"), TREES)
        self.assertIsNone(as_many(roots, empty))
        term = as_many(one, empty)
        self.assertNotEqual(number_of(one, term), number_of(empty, term))
        self.assertGreater(size_of(term), 1)
        term = as_many(root, machine_of(("in", "X", "none"), TREES, names=["Y", "X"]))
        self.assertNotEqual(number_of(root, term), 1)

    def test_complements(self):
        chance = seeded(966)
        for bench in BENCHES:
            even = counting_machine(bench, 1, 2)
            self.assertIsNone(as_many(even, ~even))
            machine = chance_machine(chance, bench, 1, 3)
            term = as_many(machine, ~machine)
            if term is not None:
                self.assertNotEqual(number_of(machine, term), number_of(~machine, term))

    def test_refusals(self):
        chance = seeded(967)
        bare = chance_machine(chance, TREES, 0, 2)
        refused(self, OtherBench, lambda: as_many(bare, chance_machine(chance, Bench.boughs(), 1, 2)))
        refused(self, OtherTracks, lambda: as_many(bare, bare))
        refused(self, OtherTracks, lambda: as_many(chance_machine(chance, TREES, 1, 2), bare))
        great = counting_machine(TREES, 1, 31)
        refused(self, TooMany, lambda: as_many(great, counting_machine(TREES, 1, 30)), "states")
        self.assertIsNone(as_many(counting_machine(TREES, 1, 30), counting_machine(TREES, 1, 30)))


if __name__ == "__main__":
    unittest.main()
