import unittest
from math import lcm

from lotsayings.benches import Bench
from lotsayings.bounds import num_bound, order_of
from lotsayings.compiler import machine_of
from lotsayings.errors import BadNumber, TooGreat
from lotsayings.leasts import least
from lotsayings.rings import ring
from lotsayings.sayings import counts_of, is_plain
from lotsayings.steps import rows_without
from tests.helpers import chance_cuts, chance_saying, chance_web_machine, seeded

TREES = Bench.trees()


def order_by_hand(p, d):
    while d % p == 0:
        d //= p
    return next(f for f in range(1, 100) if (p ** f - 1) % d == 0)


def bound_by_hand(m, d, s):
    shares = []
    for p in (2, 3, 5, 7, 11):
        if m % p == 0:
            k = max(k for k in range(1, 5) if m % p ** k == 0)
            e = min(e for e in range(8) if p ** e >= s)
            shares.append((p ** order_by_hand(p, d) - 1) * p ** (e + k - 1))
    return lcm(*shares)


class BoundsTest(unittest.TestCase):
    def test_order_by_its_definition(self):
        for p in (2, 3, 5, 7, 11, 13):
            for d in range(1, 61):
                self.assertEqual(order_of(p, d), order_by_hand(p, d))
        self.assertEqual([order_of(2, 14), order_of(2, 1), order_of(2, 32), order_of(13, 59)], [3, 1, 1, 58])

    def test_bound_by_its_definition(self):
        for m in range(2, 13):
            for d in range(1, 61):
                for s in (1, 2, 3, 4, 5, 8, 9, 10, 25, 26, 64, 65, 99, 100):
                    self.assertEqual(num_bound(m, d, s), bound_by_hand(m, d, s))
        self.assertEqual([num_bound(3, 1, 3), num_bound(4, 2, 3), num_bound(6, 1, 2)], [6, 8, 6])

    def refused(self, which, call, *passed):
        with self.assertRaises(BadNumber) as caught:
            call(*passed)
        self.assertEqual(caught.exception.which, which)

    def test_refusals_in_their_order(self):
        for p in (0, 1, 4, 6, 9, 12, 15, 17, -2, True, None, "2"):
            self.refused("p", order_of, p, 0)
        for d in (0, 61, -1, True, None):
            self.refused("d", order_of, 2, d)
            self.refused("d", num_bound, 2, d, 0)
        for m in (1, 13, 0, -2, True, None):
            self.refused("m", num_bound, m, 0, 0)
        for s in (0, 101, -1, True, None):
            self.refused("s", num_bound, 12, 60, s)

    def test_rings_of_number_rows(self):
        chance = seeded(621)
        many = 0
        for turn in range(80):
            saying = None
            if turn % 2:
                machine = chance_web_machine(chance, chance.randint(1, 2), chance_cuts(chance))
            else:
                saying = chance_saying(chance, ["X", "Y"], chance.randint(0, 1))
                try:
                    machine = machine_of(saying, TREES, names=["X", "Y"])
                except TooGreat:
                    continue
            if machine.states > 24:
                continue
            for m in range(2, 7):
                track = chance.randrange(machine.many)
                rest = chance.randrange(m)
                try:
                    found = ring(rows_without(machine, track, rest, m))
                except TooGreat:
                    continue
                many += 1
                states = least(machine).states
                self.assertEqual(num_bound(m, ring(machine), states) % found, 0)
                if saying and is_plain(saying):
                    self.assertEqual(num_bound(m, counts_of(saying), states) % found, 0)
                if m == 2 and ring(machine) in (1, 2, 4, 8, 16, 32):
                    self.assertIn(found, (1, 2, 4, 8, 16, 32, 64))
        self.assertGreater(many, 150)

    def test_powers_of_two(self):
        sayings = [
            ("num", 1, 2, "X", ("all", "x", ("or", ("in", "x", "X"), ("arrows", "x", "X", 1, 0, 2)))),
            ("num", 0, 2, "x", ("num", 1, 2, "X", ("and", ("to", "x", "X"), ("count", "X", 1, 0, 2)))),
            ("some", "x", ("num", 1, 2, "Y", ("and", ("not", ("to", "Y", "Y")), ("arrows", "x", "Y", 0, 0, 2)))),
        ]
        for saying in sayings:
            self.assertIn(ring(machine_of(saying, TREES)), (1, 2, 4, 8, 16, 32, 64))


if __name__ == "__main__":
    unittest.main()
