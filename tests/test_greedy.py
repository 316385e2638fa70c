import unittest
from itertools import combinations, product

from lotsayings.errors import BadNumber
from lotsayings.families import Family
from lotsayings.greedy import exchanges, greedy, greedy_against
from tests.helpers import all_lots, refused, seeded
from tests.test_families import chance_family, families_of


def greedy_by_hand(family, weights):
    chosen = set()
    for place in sorted(range(family.size), key=lambda x: (-weights[x], x)):
        if any(chosen | {place} <= set(lot) for lot in family):
            chosen.add(place)
    return tuple(sorted(chosen))


def exchanges_by_hand(family):
    tops = family.tops()
    for one, two in product(tops, repeat=2):
        for lost in set(one) - set(two):
            if not any(tuple(sorted(set(one) - {lost} | {y})) in tops for y in set(two) - set(one)):
                return False
    return True


class GreedyTest(unittest.TestCase):
    def check(self, family, most):
        """The greedy lot for all weights up to a bound, and whether it is always a best one."""
        always = True
        for weights in product(range(most + 1), repeat=family.size):
            lot = greedy(family, weights)
            self.assertEqual(lot, greedy_by_hand(family, weights))
            self.assertIn(lot, family.tops())
            always = always and sum(weights[place] for place in lot) == family.top_weight(weights)
        return always

    def check_against(self, family):
        found = greedy_against(family)
        self.assertIs(exchanges(family), exchanges_by_hand(family))
        self.assertIs(found is None, exchanges(family))
        if found is not None:
            self.assertEqual((type(found), len(found)), (tuple, family.size))
            self.assertGreaterEqual(min(found), 0)
            self.assertLess(sum(found[place] for place in greedy(family, found)), family.top_weight(found))
        else:
            self.assertLessEqual(len({len(lot) for lot in family.tops()}), 1)

    def test_all_small_families(self):
        for size in (1, 2, 3):
            for family in families_of(size):
                self.check_against(family)
                if family.lots:
                    always = self.check(family, 4 if size < 3 else 3)
                    self.assertEqual(always, exchanges(family))

    def test_chance_families(self):
        chance = seeded(1101)
        for _ in range(120):
            family = chance_family(chance, chance.randint(4, 6), chance.choice([0.05, 0.1, 0.3, 0.8]))
            self.check_against(family)
            if family.lots:
                weights = [chance.randint(0, 10 ** 20) for _ in range(family.size)]
                self.assertEqual(greedy(family, weights), greedy_by_hand(family, weights))
                if exchanges(family):
                    lot = greedy(family, weights)
                    self.assertEqual(sum(weights[place] for place in lot), family.top_weight(weights))

    def test_families_that_exchange(self):
        for size, many in ((5, 2), (10, 5), (10, 10), (4, 0)):
            family = Family(size, list(combinations(range(size), many)))
            self.assertTrue(exchanges(family))
            self.assertIsNone(greedy_against(family))
            self.assertEqual(greedy(family, list(range(size))), tuple(range(size - many, size)))
        pairs = Family(4, [(x, y) for x in (0, 1) for y in (2, 3)])
        self.check_against(pairs)
        self.assertTrue(exchanges(pairs))
        self.assertFalse(exchanges(Family(4, [(0, 1), (2, 3)])))
        self.assertTrue(exchanges(Family(10, all_lots(10))))

    def test_equal_weights_and_zero(self):
        family = Family(4, [(0, 1), (1, 2, 3), (0, 3)])
        self.assertEqual(greedy(family, (0, 0, 0, 0)), (0, 1))
        self.assertEqual(greedy(family, (1, 0, 1, 1)), (0, 3))
        self.assertEqual(greedy(family, [5, 5, 6, 5]), (1, 2, 3))
        self.assertEqual(greedy(Family(2, [()]), (7, 8)), ())

    def test_refusals_in_their_order(self):
        empty = Family(2, [])
        self.assertIs(exchanges(empty), True)
        self.assertIsNone(greedy_against(empty))
        refused(self, BadNumber, lambda: greedy(empty, "no"), "family")
        family = Family(2, [(0,)])
        for wrong in ((1,), (1, 2, 3), (1, -1), (True, 1), (1, None), "11", None, {0: 1, 1: 1}):
            refused(self, BadNumber, lambda: greedy(family, wrong), "weights")


if __name__ == "__main__":
    unittest.main()
