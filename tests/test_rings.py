import unittest
from math import lcm

from lotsayings.benches import Bench
from lotsayings.compiler import machine_of
from lotsayings.errors import BadNumber, NotOnTrees, NotWeb, TooGreat
from lotsayings.hanging import is_web_machine
from lotsayings.leasts import least
from lotsayings.machines import Machine
from lotsayings.rings import counts_told, ring, ring_witness, run_in, steps_of
from lotsayings.sayings import counts_of, is_plain
from lotsayings.terms import check_term, hung, put
from tests.helpers import (
    NAMED, WIDE, chance_context, chance_cuts, chance_machine, chance_saying, chance_term, chance_web_machine, seeded,
)

TREES = Bench.trees()
LEAF = (0, ())
LAST = Machine(TREES, 0, ((0,),), (((1, 0), (1, 0)),), (1,))


def walk_by_hand(table, p, q):
    """The run-in and the ring: looks at a row that is long enough to show each state again."""
    row = [p]
    for _ in range(2 * len(table) + 1):
        row.append(table[row[-1]][q])
    run = next(n for n in range(len(row)) if row[n] in row[n + 1:])
    return run, row[run + 1:].index(row[run]) + 1


class StepsTest(unittest.TestCase):
    def test_against_a_reckoning_by_hand(self):
        chance = seeded(491)
        for _ in range(60):
            bench = chance.choice(list(NAMED.values()) + [WIDE])
            machine = chance_machine(chance, bench, chance.randint(0, 1), chance.randint(1, 9))
            whole = least(machine)
            for j in range(len(bench)):
                for p in range(machine.states):
                    for q in range(machine.states):
                        found = steps_of(machine, p, q, join=j)
                        self.assertEqual(found, walk_by_hand(machine.rows[j], p, q))
                        self.assertLessEqual(sum(found), machine.states)
                states = range(whole.states)
                walks = [walk_by_hand(whole.rows[j], p, q) for p in states for q in states]
                self.assertEqual(run_in(machine, join=j), max(walk[0] for walk in walks))
                self.assertEqual(ring(machine, join=j), lcm(*[walk[1] for walk in walks]))
            self.assertEqual((run_in(machine), ring(machine)), (run_in(machine, join=0), ring(machine, join=0)))

    def test_great_machines(self):
        states = 300
        ahead = tuple(tuple(min(p + 1, states - 1) for _ in range(states)) for p in range(states))
        machine = Machine(TREES, 0, ((0,),), (ahead,), (states - 1,))
        self.assertEqual((run_in(machine), ring(machine)), (299, 1))
        self.assertEqual(steps_of(machine, 100, 7), (199, 1))
        around = tuple(tuple((p + q + 1) % states for q in range(states)) for p in range(states))
        machine = Machine(TREES, 0, ((0,),), (around,), (0,))
        self.assertEqual((run_in(machine), ring(machine)), (0, 300))
        self.assertEqual(steps_of(machine, 5, 49), (0, 6))

    def test_examples(self):
        odd = machine_of(("count", "every", 1, 0, 2), TREES)
        self.assertEqual((run_in(odd), ring(odd)), (0, 2))
        arrow = machine_of(("to", "every", "every"), TREES)
        self.assertEqual((run_in(arrow), ring(arrow)), (1, 1))

    def test_joined_machines(self):
        chance = seeded(492)
        for _ in range(40):
            one = chance_web_machine(chance, 1, [(chance.randint(0, 2), chance.randint(1, 3))])
            two = chance_machine(chance, TREES, 1, chance.randint(1, 4))
            self.assertEqual((run_in(~one), ring(~one)), (run_in(one), ring(one)))
            try:
                joined = [one & two, one | two]
            except TooGreat:
                continue
            for machine in joined:
                self.assertEqual(lcm(ring(one), ring(two)) % ring(machine), 0)
                self.assertLessEqual(run_in(machine), max(run_in(one), run_in(two)))

    def test_plain_sayings(self):
        chance = seeded(493)
        seen = set()
        for _ in range(250):
            bench = chance.choice([TREES, Bench.boughs(), Bench.cotrees()])
            saying = chance_saying(chance, ["X", "Y", "x"], chance.randint(0, 3))
            if not is_plain(saying):
                continue
            try:
                machine = machine_of(saying, bench)
            except TooGreat:
                continue
            for j in range(len(bench)):
                self.assertEqual(counts_of(saying) % ring(machine, join=j), 0)
                seen.add(ring(machine, join=j))
            self.assertIs(counts_told(machine, counts_of(saying)), True)
            self.hanging_more_often(chance, machine, saying)
        self.assertTrue({1, 2, 3, 4, 5, 6} <= seen)

    def hanging_more_often(self, chance, machine, saying):
        if machine.bench != TREES:
            return
        for _ in range(3):
            t = chance_term(chance, TREES, chance.randint(1, 3), machine.many)
            u = chance_term(chance, TREES, chance.randint(1, 3), machine.many)
            context = chance_context(chance, TREES, chance.randint(0, 3), machine.many)
            many = machine.states + chance.randint(0, 3)
            one = put(context, hung(t, u, times=many))
            two = put(context, hung(t, u, times=many + counts_of(saying)))
            self.assertEqual(machine.answers(one), machine.answers(two))

    def test_refusals(self):
        machine = chance_machine(seeded(494), Bench.cotrees(), 1, 3)
        for p, q, join, which in (
            (3, 9, 9, "p"), (-1, 0, 0, "p"), (True, 0, 0, "p"), (0, 3, 9, "q"), (0, None, 0, "q"),
            (0, 0, 2, "join"), (2, 2, -1, "join"), (2, 2, False, "join"),
        ):
            with self.assertRaises(BadNumber) as caught:
                steps_of(machine, p, q, join=join)
            self.assertEqual(caught.exception.which, which)
        for call in (run_in, ring):
            for join in (2, -1, True, None):
                with self.assertRaises(BadNumber) as caught:
                    call(machine, join=join)
                self.assertEqual(caught.exception.which, "join")


class CountsToldTest(unittest.TestCase):
    def test_divisors(self):
        for d in range(1, 7):
            machine = machine_of(("count", "X", d - 1, 0, d), TREES)
            for told in range(1, 61):
                self.assertIs(counts_told(machine, told), told % d == 0)
        self.assertIs(counts_told(LAST, 60), False)
        cotrees = machine_of(("arrows", "every", "X", 2, 0, 4), Bench.cotrees())
        for told in range(1, 13):
            fits = told % ring(cotrees, join=0) == 0 and told % ring(cotrees, join=1) == 0
            self.assertIs(counts_told(cotrees, told), fits)

    def test_all_joins(self):
        xor = ((0, 1), (1, 0))
        most = ((0, 1), (1, 1))
        for rows in ((xor, most), (most, xor)):
            machine = Machine(Bench.cotrees(), 1, ((0, 1),), rows, (1,))
            self.assertIs(is_web_machine(machine), True)
            self.assertIs(counts_told(machine, 1), False)
            self.assertIs(counts_told(machine, 6), True)

    def test_refusals_in_their_order(self):
        chance = seeded(495)
        for bench in (Bench.narrow_rows(), WIDE):
            with self.assertRaises(NotOnTrees):
                counts_told(chance_machine(chance, bench, 0, 2), 0)
        for d in (0, 61, -1, True, None, "2"):
            for machine in (LAST, machine_of(("in", "X", "Y"), TREES)):
                with self.assertRaises(BadNumber) as caught:
                    counts_told(machine, d)
                self.assertEqual(caught.exception.which, "d")


class RingWitnessTest(unittest.TestCase):
    def judge(self, machine, d):
        found = ring_witness(machine, d)
        if found is None:
            self.assertEqual(d % ring(machine), 0)
            return False
        self.assertNotEqual(d % ring(machine), 0)
        self.assertIsInstance(found, tuple)
        t, u, context, n, l = found
        self.assertIsNone(check_term(TREES, t, machine.many))
        self.assertIsNone(check_term(TREES, u, machine.many))
        self.assertIsNone(check_term(TREES, context, machine.many, hole=True))
        self.assertGreaterEqual(n, 0)
        self.assertGreaterEqual(l, 1)
        for i in range(5):
            one = put(context, hung(t, u, times=n + i * l))
            two = put(context, hung(t, u, times=n + i * l + d))
            self.assertNotEqual(machine.answers(one), machine.answers(two))
        return True

    def test_chance_machines(self):
        chance = seeded(496)
        seen = set()
        for _ in range(60):
            machine = chance_web_machine(chance, chance.randint(0, 1), chance_cuts(chance))
            for d in (1, 2, 3, 4, 6, 7):
                seen.add(self.judge(machine, d))
        self.assertEqual(seen, {True, False})

    def test_machines_of_sayings(self):
        for d in range(1, 7):
            machine = machine_of(("some", "x", ("arrows", "x", "every", 3 % d, 0, d)), TREES)
            for told in range(1, 61):
                self.assertIs(self.judge(machine, told), told % ring(machine) != 0)

    def test_refusals_in_their_order(self):
        chance = seeded(497)
        for bench in (Bench.boughs(), Bench.cotrees(), Bench.narrow_rows()):
            with self.assertRaises(NotOnTrees):
                ring_witness(chance_machine(chance, bench, 0, 4), 0)
        with self.assertRaises(NotWeb):
            ring_witness(LAST, 0)
        odd = machine_of(("count", "every", 1, 0, 2), TREES)
        for d in (0, 61, True, None):
            with self.assertRaises(BadNumber) as caught:
                ring_witness(odd, d)
            self.assertEqual(caught.exception.which, "d")
        self.assertIsNone(ring_witness(odd, 60))


if __name__ == "__main__":
    unittest.main()
