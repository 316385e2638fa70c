import unittest
from itertools import product

from lotsayings.against import best_against, best_same, holds_against, weights_against
from lotsayings.atoms import atom_machine
from lotsayings.benches import Bench
from lotsayings.bests import best
from lotsayings.closings import broken
from lotsayings.compiler import machine_of
from lotsayings.errors import BadNumber, LotError, OtherBench, OtherTracks, TooGreat, TooMany
from lotsayings.families import Family
from lotsayings.steps import moved_letters, pairs, sets_without
from lotsayings.terms import check_term, size_of
from lotsayings.verdicts import agree, gives, parting_term
from tests.helpers import BENCHES, all_lots, chance_machine, counting_machine, refused, seeded, small_terms
from tests.test_families import chance_family, families_of

TREES = Bench.trees()


def weight(lot, weights):
    return sum(weights[place] for place in lot)


class FamiliesTest(unittest.TestCase):
    def check_box(self, family):
        weights = weights_against(family, "box")
        self.assertIs(weights is None, broken(family, "box") is None)
        if weights is None:
            return
        self.assert_weights(weights, family.size)
        meet = set.intersection(*[set(lot) for lot in family])
        union = set.union(*[set(lot) for lot in family])
        told = weight(meet, weights) + sum(max(0, weights[place]) for place in union - meet)
        self.assertNotEqual(family.top_weight(weights), told)

    def check_lattice(self, family):
        weights = weights_against(family, "or-and")
        closed = broken(family, "or") is None and broken(family, "and") is None
        self.assertIs(weights is None, closed)
        if weights is not None:
            self.assert_weights(weights, family.size)
            tops = family.best_family(weights).lots
            self.assertFalse(any(all(set(one) <= set(other) for one in tops) for other in tops))

    def check_holds(self, family):
        found = holds_against(family)
        self.assertIs(found is None, broken(family, "even") is None)
        if found is not None:
            self.assertEqual((type(found), set(found[0]) & set(found[1])), (tuple, set()))
            many = len(family.held(*found))
            self.assertNotEqual(many & many - 1, 0)

    def assert_weights(self, weights, size):
        self.assertIsInstance(weights, tuple)
        self.assertEqual((len(weights), {type(number) for number in weights}), (size, {int}))

    def test_all_small_families(self):
        for size in (1, 2, 3):
            for family in families_of(size):
                self.check_box(family)
                self.check_lattice(family)
                self.check_holds(family)

    def test_what_all_weights_tell(self):
        for size in (1, 2, 3):
            for family in families_of(size):
                if not family.lots:
                    continue
                meet = set.intersection(*[set(lot) for lot in family])
                union = set.union(*[set(lot) for lot in family])
                for weights in product(range(-2, 3), repeat=size):
                    if weights_against(family, "box") is None:
                        told = weight(meet, weights) + sum(max(0, weights[place]) for place in union - meet)
                        self.assertEqual(family.top_weight(weights), told)
                    if weights_against(family, "or-and") is None:
                        tops = family.best_family(weights).lots
                        self.assertTrue(any(all(set(one) <= set(other) for one in tops) for other in tops))
                        self.assertTrue(any(all(set(one) >= set(other) for one in tops) for other in tops))

    def test_chance_families(self):
        chance = seeded(1091)
        for _ in range(150):
            family = chance_family(chance, chance.randint(4, 6), chance.choice([0.1, 0.2, 0.5, 0.8, 0.97, 1]))
            self.check_box(family)
            self.check_lattice(family)
            self.check_holds(family)

    def test_closed_by_sets(self):
        # Lots that hold with each place of some pairs the other one are closed by "or" and by "and".
        chance = seeded(1092)
        for _ in range(20):
            rules = [(chance.randrange(5), chance.randrange(5)) for _ in range(chance.randint(1, 4))]
            lots = [lot for lot in all_lots(5) if all(y in lot for x, y in rules if x in lot)]
            self.assertIsNone(weights_against(Family(5, lots), "or-and"))
            less = [lot for lot in lots if lot != lots[len(lots) // 2]]
            self.check_lattice(Family(5, less))

    def test_great_families(self):
        lots = all_lots(10)
        whole = Family(10, lots)
        self.assertEqual([weights_against(whole, "box"), weights_against(whole, "or-and")], [None, None])
        self.assertIsNone(holds_against(whole))
        for family in (
            Family(10, [lot for lot in lots if lot != (2, 5)]), Family(10, [lot for lot in lots if len(lot) < 10]),
            Family(10, [lot for lot in lots if len(lot) % 3]),
        ):
            self.check_box(family)
            self.check_lattice(family)
            self.check_holds(family)

    def test_words_and_the_empty_family(self):
        for size in (1, 10):
            empty = Family(size, [])
            found = [weights_against(empty, "box"), weights_against(empty, "or-and"), holds_against(empty)]
            self.assertEqual(found, [None] * 3)
        for word in ("or", "and", "even", "", None, 3):
            refused(self, BadNumber, lambda: weights_against(Family(2, []), word), "word")


def holders(machine):
    """As point 111 tells them."""
    m = machine.many - 1
    inside = atom_machine(("in", "X", "Y"), machine.bench, ["X", "Y"])
    wide = moved_letters(machine, list(range(m)) + [m + 1], m + 2)
    return sets_without(pairs(wide, moved_letters(inside, [m, m + 1], m + 2), "and"), m + 1)


class MachinesTest(unittest.TestCase):
    def below(self, family):
        return {lot for lot in all_lots(family.size) if any(set(lot) <= set(other) for other in family)}

    def check_best(self, one, two, most):
        bench, many = one.bench, one.many - 1
        for floor in (None, 0):
            same = best_same(one, two, floor=floor)
            found = best_against(one, two, floor=floor)
            self.assertIs(found is None, same)
            least = None
            for term in small_terms(bench, most, many):
                families = [Family.of(machine, term) for machine in (one, two)]
                unlike = families[0] != families[1]
                if floor == 0:
                    unlike = self.below(families[0]) != self.below(families[1])
                if unlike:
                    least = size_of(term)
                    break
            if found is None:
                self.assertIsNone(least)
                continue
            term, weights = found
            check_term(bench, term, many)
            self.assertEqual((type(weights), len(weights)), (tuple, size_of(term)))
            self.assertTrue(all(type(number) is int for number in weights))
            if floor == 0:
                self.assertGreaterEqual(min(weights), 0)
            self.assertNotEqual(best(one, term, weights), best(two, term, weights))
            if least is None:
                self.assertGreater(size_of(term), most)
            else:
                self.assertEqual(size_of(term), least)
        return best_same(one, two), best_same(one, two, floor=0)

    def test_chance_machines(self):
        chance = seeded(1093)
        kinds = []
        for turn in range(60):
            bench = BENCHES[turn % len(BENCHES)]
            one = chance_machine(chance, bench, 1 + turn % 2, chance.randint(1, 3))
            two = one & chance_machine(chance, bench, one.many, 2)
            if turn % 3 == 0:
                two = one | chance_machine(chance, bench, one.many, 2)
            try:
                kinds.append(self.check_best(one, two, 3 if turn % 2 == 0 and len(bench) == 1 else 2))
            except TooGreat:
                kinds.append(None)
        for kind in ((True, True), (False, True), (False, False)):
            self.assertIn(kind, kinds)

    def test_equal_tops(self):
        for bench in BENCHES:
            free = machine_of(("in", "none", "X"), bench)
            whole = machine_of(("in", "every", "X"), bench)
            self.assertEqual(self.check_best(free, whole, 2), (False, True))
            self.assertEqual(self.check_best(free, ~~free, 2), (True, True))
            none = free.accepting(())
            self.assertEqual(self.check_best(none, machine_of(("in", "X", "none"), bench), 2), (False, False))
        apart = machine_of(("not", ("to", "X", "X")), TREES)
        near = machine_of(("or", ("in", "X", "none"), ("not", ("to", "X", "X"))), TREES)
        self.assertEqual(self.check_best(apart, near, 4), (True, True))
        small = machine_of(("and", ("not", ("to", "X", "X")), ("not", ("count", "X", 0, 1, 1))), TREES)
        self.assertEqual(self.check_best(apart, small, 4), (False, True))

    def test_agreement(self):
        chance = seeded(1094)
        for _ in range(40):
            bench = chance.choice(BENCHES)
            one, two = [chance_machine(chance, bench, 1, chance.randint(1, 3)) for _ in range(2)]
            self.assertIs(best_same(one, two), agree(one, two))
            try:
                told = gives(one, holders(two)) and gives(two, holders(one))
            except TooGreat:
                continue
            self.assertIs(best_same(one, two, floor=0), told)

    def test_refusals_in_their_order(self):
        chance = seeded(1095)
        bare = chance_machine(chance, TREES, 0, 2)
        one = chance_machine(chance, TREES, 1, 2)
        five = counting_machine(TREES, 5, 2)
        other = chance_machine(chance, Bench.boughs(), 2, 2)
        for call in (best_same, best_against):
            refused(self, OtherBench, lambda: call(one, other, floor=1))
            refused(self, OtherTracks, lambda: call(one, five, floor=1))
            refused(self, OtherTracks, lambda: call(bare, bare, floor=1))
            for floor in (1, -1, False, True, "0", ()):
                refused(self, BadNumber, lambda: call(five, five, floor=floor), "floor")
            refused(self, TooMany, lambda: call(five, five, floor=0), "tracks")
        self.assertIs(best_same(five, five), True)
        self.assertIsNone(best_against(five, five))
        self.assertIs(best_same(five, ~five), False)
        self.assertEqual(size_of(best_against(five, ~five)[0]), 1)

    def test_steps_that_are_too_great(self):
        chance = seeded(1096)
        steps = set()
        for turn in range(40):
            bench = BENCHES[turn % len(BENCHES)]
            one = chance_machine(chance, bench, 1, chance.choice([2, 3, 12, 60]))
            two = chance_machine(chance, bench, 1, chance.choice([2, 3, 12, 60]))
            wanted = self.first_error(one, two)
            for call in (best_same, best_against):
                if wanted is None:
                    call(one, two, floor=0)
                else:
                    refused(self, TooGreat, lambda: call(one, two, floor=0), wanted)
            steps.add(wanted)
            try:
                parting_term(one, two)
            except TooGreat as error:
                refused(self, TooGreat, lambda: best_against(one, two), error.step)
        self.assertTrue({None, "sets", "pairs"} <= steps, steps)
        great = counting_machine(TREES, 1, 60)
        wide = counting_machine(TREES, 1, 61)
        refused(self, TooGreat, lambda: best_against(great, wide), "pairs")
        self.assertIs(best_same(great, wide), False)
        self.assertIsNone(best_against(great, great))

    def first_error(self, one, two):
        """The step of the first TooGreat in the told order, None if none comes."""
        try:
            own = holders(one)
            others = holders(two)
            gives(one, others)
            gives(two, own)
        except LotError as error:
            return error.step
        return None

    def test_weights_of_all_kinds(self):
        # Both answer alike for weights that are not below 0, by all weights from 0 to 2.
        one = machine_of(("not", ("to", "X", "X")), TREES)
        two = one & machine_of(("not", ("in", "X", "none")), TREES)
        for term in small_terms(TREES, 4, 0):
            for weights in product(range(3), repeat=size_of(term)):
                self.assertEqual(best(one, term, weights), best(two, term, weights))


if __name__ == "__main__":
    unittest.main()
