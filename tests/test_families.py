import unittest
from itertools import combinations, product

from lotsayings.benches import Bench
from lotsayings.compiler import machine_of
from lotsayings.errors import BadLot, BadNumber, BadTerm, OtherTracks, TooMany
from lotsayings.families import Family
from lotsayings.terms import hung, size_of
from tests.helpers import BENCHES, all_lots, chance_machine, chance_term, refused, seeded, with_bit

TREES = Bench.trees()
LEAF = (0, ())


def families_of(size):
    """All families of so many places."""
    lots = all_lots(size)
    for many in range(len(lots) + 1):
        for chosen in combinations(lots, many):
            yield Family(size, chosen)


def chance_family(chance, size, share=0.5):
    return Family(size, [lot for lot in all_lots(size) if chance.random() < share])


class FamilyTest(unittest.TestCase):
    def test_made(self):
        lots = [[2, 0], (), (1,), [0, 1, 2]]
        family = Family(3, lots)
        self.assertEqual((family.size, family.lots), (3, ((), (0, 1, 2), (0, 2), (1,))))
        self.assertEqual((len(family), list(family), [lot for lot in family]), (4, list(family.lots), list(family.lots)))
        self.assertEqual(lots, [[2, 0], (), (1,), [0, 1, 2]])
        self.assertEqual(Family.WORDS, ("box", "or", "and", "two", "even"))
        self.assertEqual(Family(1, []).lots, ())
        self.assertEqual(Family(10, [tuple(range(10))]).lots, (tuple(range(10)),))

    def test_sizes_and_lots_that_are_refused(self):
        for size in (0, 11, -1, True, None, "3", 10 ** 59):
            refused(self, BadNumber, lambda: Family(size, "no"), "size")
        for size in (1, 10):
            self.assertEqual(Family(size, [(size - 1,)]).lots, ((size - 1,),))
            refused(self, BadLot, lambda: Family(size, [(size,)]))
        for lots in (
            "no", None, {}, 7, [(0,), "0"], [(0, 0)], [(-1,)], [(True,)], [(3,)], [None], [(0, 1), (1, 0)], [(), ()],
            [[2], [0, 1], [2]],
        ):
            refused(self, BadLot, lambda: Family(3, lots))

    def test_in(self):
        family = Family(3, [(0, 2), (1,), ()])
        for value in ((0, 2), (2, 0), [2, 0], [1], (), []):
            self.assertIs(value in family, True, value)
        for value in ((0,), (0, 1, 2), (3,), (0, 0, 2), (True,), (-1,), "1", None, 1, {1: 1}, (1, None), ((1,),)):
            self.assertIs(value in family, False, value)

    def test_equal(self):
        family = Family(3, [(0, 2), (1,)])
        self.assertEqual(family, Family(3, ([1], [2, 0])))
        self.assertNotEqual(family, Family(4, [(0, 2), (1,)]))
        self.assertNotEqual(family, Family(3, [(0, 2)]))
        self.assertIs(family == ((0, 2), (1,)), False)
        self.assertIs(family == None, False)  # noqa: E711

    def test_both_and_either(self):
        chance = seeded(1071)
        for size in (1, 2, 4, 10):
            one, two = chance_family(chance, size), chance_family(chance, size)
            both = [lot for lot in all_lots(size) if lot in one.lots and lot in two.lots]
            either = [lot for lot in all_lots(size) if lot in one.lots or lot in two.lots]
            self.assertEqual((one & two).lots, tuple(sorted(both)))
            self.assertEqual((one | two).lots, tuple(sorted(either)))
            self.assertEqual(((one & two).size, (one | two).size), (size, size))
            self.assertEqual((one & Family(size, []), one | Family(size, [])), (Family(size, []), one))
        for call in (lambda: Family(2, []) & Family(3, []), lambda: Family(2, []) | Family(3, [])):
            refused(self, BadNumber, call, "size")

    def test_of(self):
        chance = seeded(1072)
        for turn in range(50):
            bench = BENCHES[turn % len(BENCHES)]
            machine = chance_machine(chance, bench, chance.randint(1, 2), chance.randint(1, 4))
            term = chance_term(chance, bench, chance.randint(1, 6), machine.many - 1)
            fits = [lot for lot in all_lots(size_of(term)) if machine.answers(with_bit(term, machine.many - 1, lot))]
            self.assertEqual(Family.of(machine, term), Family(size_of(term), fits))

    def test_of_ten_and_eleven_places(self):
        apart = machine_of(("not", ("to", "X", "X")), TREES)
        self.assertEqual(len(Family.of(apart, hung(LEAF, LEAF, times=9))), 2 ** 9 + 1)
        self.assertEqual(len(Family.of(machine_of(("in", "none", "X"), TREES), hung(LEAF, LEAF, times=9))), 1024)
        great = hung(LEAF, LEAF, times=10)
        refused(self, TooMany, lambda: Family.of(apart, great), "places")
        bare = machine_of(("in", "every", "every"), TREES)
        refused(self, OtherTracks, lambda: Family.of(bare, great))
        refused(self, BadTerm, lambda: Family.of(apart, (0, great, (0, (1,)))), (1,))

    def test_tops(self):
        for family in families_of(3):
            tops = [lot for lot in family.lots if not any(set(lot) < set(other) for other in family.lots)]
            self.assertEqual(family.tops(), tuple(tops))
        self.assertEqual(len(Family(10, all_lots(10)).tops()), 1)
        self.assertEqual(len(Family(10, combinations_of(10, 5)).tops()), 252)

    def test_best(self):
        chance = seeded(1073)
        for _ in range(60):
            size = chance.randint(1, 5)
            family = chance_family(chance, size, chance.random())
            weights = [chance.randint(-3, 3) * chance.choice([1, 10 ** 50]) for _ in range(size)]
            worth = {lot: sum(weights[place] for place in lot) for lot in family.lots}
            top = max(worth.values(), default=None)
            self.assertEqual(family.top_weight(weights), top)
            self.assertEqual(family.best_family(tuple(weights)), Family(size, [x for x in worth if worth[x] == top]))
        empty = Family(2, [])
        self.assertEqual((empty.top_weight((1, 2)), empty.best_family([1, 2])), (None, empty))
        for wrong in ([1], [1, 2, 3], [True, 2], [1, None], "12", None, 5):
            refused(self, BadNumber, lambda: empty.top_weight(wrong), "weights")
            refused(self, BadNumber, lambda: Family(2, [()]).best_family(wrong), "weights")

    def test_held(self):
        chance = seeded(1074)
        for _ in range(30):
            size = chance.randint(1, 4)
            family = chance_family(chance, size)
            for inside, outside in product(all_lots(size), repeat=2):
                kept = [x for x in family.lots if set(inside) <= set(x) and not set(outside) & set(x)]
                self.assertEqual(family.held(inside, list(outside)[::-1]), Family(size, kept))
                if set(inside) & set(outside):
                    self.assertEqual(kept, [])
        family = Family(3, all_lots(3))
        self.assertEqual(family.held((0, 1), (1, 2)), Family(3, []))
        for wrong in ((3,), (0, 0), (True,), None, "0", 1):
            refused(self, BadLot, lambda: family.held(wrong, ()))
            refused(self, BadLot, lambda: family.held((), wrong))
            refused(self, BadLot, lambda: family.looks(wrong))

    def test_looks(self):
        chance = seeded(1075)
        for _ in range(60):
            size = chance.randint(2, 5)
            family = chance_family(chance, size, chance.random())
            for lot in all_lots(size):
                told = all(
                    any((x in lot) == (x in other) and (y in lot) == (y in other) for other in family.lots)
                    for x, y in combinations(range(size), 2)
                )
                self.assertIs(family.looks(list(lot)[::-1]), told)
        for lots in families_of(1):
            for lot in all_lots(1):
                self.assertIs(lots.looks(lot), lot in lots.lots)
        self.assertIs(Family(3, []).looks(()), False)


def combinations_of(size, many):
    return list(combinations(range(size), many))


if __name__ == "__main__":
    unittest.main()
