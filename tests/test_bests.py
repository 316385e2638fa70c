import unittest

from lotsayings.benches import Bench
from lotsayings.bests import Weigh, best, best_lot, best_many, ends
from lotsayings.compiler import machine_of
from lotsayings.errors import BadLot, BadNumber, BadTerm, OtherTracks
from lotsayings.families import Family
from lotsayings.numbers import number_of
from lotsayings.terms import hung, size_of
from tests.helpers import (
    BENCHES, all_lots, chance_machine, chance_term, counting_machine, refused, seeded, with_bit,
)

TREES = Bench.trees()
LEAF = (0, ())
CALLS = (best, best_many, best_lot, ends)


def fitting_by_hand(machine, term):
    return [lot for lot in all_lots(size_of(term)) if machine.answers(with_bit(term, machine.many - 1, lot))]


def greatest(lots, weights):
    return max((sum(weights[place] for place in lot) for lot in lots), default=None)


class BestTest(unittest.TestCase):
    def check(self, machine, term, weights):
        lots = fitting_by_hand(machine, term)
        top = greatest(lots, weights)
        self.assertEqual(best(machine, term, weights), top)
        tops = [lot for lot in lots if sum(weights[place] for place in lot) == top]
        self.assertEqual(best_many(machine, term, weights), len(tops))
        lot = best_lot(machine, term, weights)
        if lots:
            self.assertIn(lot, tops)
        else:
            self.assertIsNone(lot)
        found = ends(machine, term, weights)
        self.assertIsInstance(found, tuple)
        for place in range(size_of(term)):
            wanted = (
                greatest([lot for lot in lots if place in lot], weights),
                greatest([lot for lot in lots if place not in lot], weights),
            )
            self.assertEqual(found[place], wanted)
        return lots

    def test_all_lots_one_by_one(self):
        chance = seeded(1061)
        empty = 0
        for turn in range(120):
            bench = BENCHES[turn % len(BENCHES)]
            machine = chance_machine(chance, bench, chance.randint(1, 3), chance.randint(1, 5))
            if turn % 4 == 0:
                machine = machine.accepting(machine.accepted[:1])
            term = chance_term(chance, bench, chance.randint(1, 7), machine.many - 1)
            most = chance.choice([1, 3, 10 ** 27])
            weights = [chance.randint(-most, most) for _ in range(size_of(term))]
            kept = list(weights)
            empty += not self.check(machine, term, weights)
            self.assertEqual(weights, kept)
            self.assertEqual(best(machine, term, tuple(weights)), best(machine, term, weights))
        self.assertGreater(empty, 5)

    def test_great_terms(self):
        chance = seeded(1062)
        for bench in BENCHES[:4]:
            term = chance_term(chance, bench, 200, 0)
            weights = [chance.randint(-10 ** 27, 10 ** 27) for _ in range(200)]
            free = machine_of(("in", "none", "X"), bench)
            positive = sum(weight for weight in weights if weight > 0)
            self.assertEqual(best(free, term, weights), positive)
            self.assertEqual(best_lot(free, term, weights), tuple(x for x in range(200) if weights[x] > 0))
            self.assertEqual(best_many(free, term, weights), 1)
            self.assertEqual(best_many(free, term, [0] * 200), 2 ** 200)
            for place, pair in enumerate(ends(free, term, weights)):
                self.assertEqual(pair[0] - pair[1], weights[place])
                self.assertEqual(max(pair), positive)
            odd = ~counting_machine(bench, 1, 2)
            tops = [x for x in range(200) if weights[x] > 0]
            less = positive - min(abs(weight) for weight in weights) if len(tops) % 2 == 0 else positive
            self.assertEqual(best(odd, term, weights), less)
            lot = best_lot(odd, term, weights)
            self.assertEqual((len(lot) % 2, Weigh(weights)(lot)), (1, less))

    def test_great_trees_of_leaves(self):
        apart = machine_of(("not", ("to", "X", "X")), TREES)
        star = hung(LEAF, LEAF, times=199)
        self.assertEqual(best(apart, star, [199] + [1] * 199), 199)
        self.assertEqual(best_many(apart, star, [199] + [1] * 199), 2)
        self.assertEqual(best_many(apart, star, [0] * 200), number_of(apart, star))
        self.assertEqual(best_lot(apart, star, [-1] * 200), ())
        self.assertEqual(ends(apart, star, [5] + [1] * 199)[0], (5, 199))
        self.assertEqual(ends(apart, star, [5] + [1] * 199)[7], (199, 198))

    def test_changed_weight(self):
        chance = seeded(1063)
        for _ in range(40):
            bench = chance.choice(BENCHES)
            machine = chance_machine(chance, bench, 1, 4)
            term = chance_term(chance, bench, chance.randint(1, 8), 0)
            weights = [chance.randint(-9, 9) for _ in range(size_of(term))]
            place = chance.randrange(len(weights))
            more = chance.randint(-20, 20)
            have, lack = ends(machine, term, weights)[place]
            weights[place] += more
            known = [number for number in (None if have is None else have + more, lack) if number is not None]
            self.assertEqual(best(machine, term, weights), max(known, default=None))

    def test_nothing_fits(self):
        machine = machine_of(("and", ("in", "X", "none"), ("not", ("in", "X", "none"))), TREES)
        star = hung(LEAF, LEAF, times=2)
        found = [call(machine, star, (1, 2, 3)) for call in CALLS]
        self.assertEqual(found, [None, 0, None, ((None, None),) * 3])

    def test_box_of_ends(self):
        bounds = ("and", ("in", "Y", "X"), ("in", "X", ("|", "Y", "Z")))
        machine = machine_of(bounds, TREES, names=["Y", "Z", "X"])
        term = (0, (0, (0, (1, 1)), (0, (0, 1))), (0, (0, 0)))
        self.assertEqual(ends(machine, term, [0, 0, 0]), ((0, None), (0, 0), (None, 0)))
        self.assertEqual(len(Family.of(machine, term)), 2)

    def test_refusals_in_their_order(self):
        chance = seeded(1064)
        bare = chance_machine(chance, TREES, 0, 2)
        machine = chance_machine(chance, TREES, 2, 2)
        term = (0, (0, (1,)), (0, (0,)))
        for call in CALLS:
            refused(self, OtherTracks, lambda: call(bare, "no", "no"))
            refused(self, BadTerm, lambda: call(machine, (0, (0, (1,)), LEAF), "no"), (1,))
            refused(self, BadTerm, lambda: call(machine, None, [1]), ())
            for wrong in ([1], [1, 2, 3], [True, 1], [1, None], ["1", 2], "12", None, {0: 1, 1: 2}, 5, []):
                refused(self, BadNumber, lambda: call(machine, term, wrong), "weights")
            call(machine, term, [10 ** 59, -1])


class WeighTest(unittest.TestCase):
    def test_weigh(self):
        weights = [3, -10 ** 59, 4]
        weigh = Weigh(weights)
        self.assertEqual([weigh(()), weigh([2, 0]), weigh((0, 1, 2))], [0, 7, 7 - 10 ** 59])
        weights[0] = 100
        self.assertEqual(weigh((0,)), 3)
        self.assertEqual(Weigh(())(()), 0)
        self.assertEqual(max([(0,), (2,), (1,)], key=Weigh((1, 2, 3))), (2,))

    def test_refusals(self):
        for wrong in ("12", None, 7, [1, True], [1, None], ["1"], {1: 2}):
            refused(self, BadNumber, lambda: Weigh(wrong), "weights")
        for wrong in ((3,), (-1,), (0, 0), (True,), "0", None, 0, {0: 1}):
            refused(self, BadLot, lambda: Weigh((1, 2, 3))(wrong))
        refused(self, BadLot, lambda: Weigh([])((0,)))


if __name__ == "__main__":
    unittest.main()
