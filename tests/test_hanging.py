import unittest

from lotsayings.benches import Bench
from lotsayings.compiler import machine_of
from lotsayings.errors import NotOnTrees, TooGreat
from lotsayings.hanging import is_web_machine, joins_alike, two_terms
from lotsayings.leasts import least
from lotsayings.machines import Machine
from lotsayings.terms import size_of, tracks_of, web_of
from lotsayings.webs import equal_by
from tests.helpers import (
    NAMED, WIDE, chance_cuts, chance_machine, chance_saying, chance_web_machine, seeded, small_terms,
)

TREES = Bench.trees()
BOUGHS = Bench.boughs()
COTREES = Bench.cotrees()
THREE = (TREES, BOUGHS, COTREES)


def broken_by_hand(machine):
    """The least tuple of the first rule of point 48 that fails, by trying all."""
    whole = least(machine)
    states = range(whole.states)
    triples = [(p, q, r) for p in states for q in states for r in states]
    doubles = [(p, q) for p in states for q in states]
    dot = whole.rows[0]
    if machine.bench in (TREES, BOUGHS):
        for p, q, r in triples:
            if dot[dot[p][q]][r] != dot[dot[p][r]][q]:
                return (p, q, r)
        for p, q in doubles if machine.bench == BOUGHS else []:
            if (dot[p][q] in whole.accepted) != (dot[q][p] in whole.accepted):
                return (p, q)
        return None
    for table in whole.rows:
        for p, q in doubles:
            if table[p][q] != table[q][p]:
                return (p, q)
        for p, q, r in triples:
            if table[table[p][q]][r] != table[p][table[q][r]]:
                return (p, q, r)
    return None


def nearly(chance, machine):
    """The machine with few states of its tables changed."""
    rows = [[list(row) for row in table] for table in machine.rows]
    for _ in range(chance.randint(1, 2)):
        table = chance.choice(rows)
        chance.choice(table)[chance.randrange(machine.states)] = chance.randrange(machine.states)
    tables = tuple(tuple(tuple(row) for row in table) for table in rows)
    return Machine(machine.bench, machine.many, machine.leaves, tables, machine.accepted)


def some_machines(chance):
    """Machines on the three benches, of which some are web machines and some nearly so."""
    for turn in range(150):
        bench = chance.choice(THREE)
        if turn % 3 == 0:
            machine = chance_machine(chance, bench, chance.randint(0, 1), chance.randint(1, 4))
        else:
            saying = chance_saying(chance, ["X", "x"], chance.randint(0, 2))
            try:
                machine = machine_of(saying, bench)
            except TooGreat:
                continue
            if machine.states > 20:
                continue
        yield machine
        yield nearly(chance, machine)


class HangingTest(unittest.TestCase):
    def judge(self, machine):
        found = joins_alike(machine)
        self.assertEqual(found, broken_by_hand(machine))
        self.assertIs(is_web_machine(machine), found is None)
        pair = two_terms(machine)
        if found is None:
            self.assertIsNone(pair)
            return
        self.assertIsInstance(pair, tuple)
        one, two = pair
        self.assertNotEqual(machine.answers(one), machine.answers(two))
        if size_of(one) <= 8:
            bench = machine.bench
            order = equal_by(web_of(bench, one), tracks_of(one), web_of(bench, two), tracks_of(two))
            self.assertIsNotNone(order)

    def test_against_all_tuples(self):
        chance = seeded(481)
        lengths = {bench: set() for bench in range(3)}
        for machine in some_machines(chance):
            self.judge(machine)
            found = joins_alike(machine)
            lengths[THREE.index(machine.bench)].add(None if found is None else len(found))
        self.assertEqual(lengths, {0: {None, 3}, 1: {None, 2, 3}, 2: {None, 2, 3}})

    def test_small_terms_show_it(self):
        chance = seeded(482)
        for turn in range(30):
            bench = THREE[turn % 3]
            machine = chance_machine(chance, bench, 0, 2)
            terms = list(small_terms(bench, 4, 0))
            alike = True
            for one in terms:
                for two in terms:
                    if machine.answers(one) != machine.answers(two):
                        alike = alike and equal_by(web_of(bench, one), (), web_of(bench, two), ()) is None
            if is_web_machine(machine):
                self.assertTrue(alike)

    def test_examples(self):
        last = Machine(TREES, 0, ((0,),), (((1, 0), (1, 0)),), (1,))
        self.assertEqual(joins_alike(last), (0, 0, 1))
        self.assertIs(is_web_machine(last), False)
        root = machine_of(("count", "every", 1, 0, 2), TREES)
        self.assertIsNone(joins_alike(root))
        self.assertIsNone(two_terms(root))

    def test_rules_in_their_order(self):
        rows = ((0, 0), (1, 1))
        left = Machine(BOUGHS, 1, ((0, 1),), (rows,), (1,))
        self.assertEqual(joins_alike(left), (0, 1))
        one, two = two_terms(left)
        self.assertNotEqual(left.answers(one), left.answers(two))
        self.assertIsNone(joins_alike(Machine(TREES, 1, ((0, 1),), (rows,), (1,))))
        xor = ((0, 1), (1, 0))
        self.assertEqual(joins_alike(Machine(COTREES, 1, ((0, 1),), (xor, rows), (1,))), (0, 1))
        self.assertIsNone(joins_alike(Machine(COTREES, 1, ((0, 1),), (xor, xor), (1,))))
        nand = ((1, 1), (1, 0))
        self.assertEqual(joins_alike(Machine(COTREES, 1, ((0, 1),), (nand, rows), (1,))), (0, 0, 1))
        self.assertEqual(joins_alike(Machine(COTREES, 1, ((0, 1),), (xor, nand), (1,))), (0, 0, 1))

    def test_states_of_the_least_machine(self):
        table = ((2, 2, 0, 0), (1, 1, 1, 3), (2, 2, 2, 2), (3, 0, 1, 2))
        machine = Machine(TREES, 0, ((2,),), (table,), (0, 3))
        self.assertIs(is_web_machine(machine), True)
        chance = seeded(483)
        for _ in range(60):
            base = chance_web_machine(chance, 1, chance_cuts(chance))
            states = base.states
            table = [list(row) + [chance.randrange(states + 1)] for row in base.rows[0]]
            table.append([chance.randrange(states + 1) for _ in range(states + 1)])
            more = Machine(TREES, 1, base.leaves, (tuple(tuple(row) for row in table),), base.accepted)
            self.assertIs(is_web_machine(base), True)
            self.assertIs(is_web_machine(more), True)

    def test_machines_of_sayings(self):
        chance = seeded(484)
        many = 0
        for _ in range(150):
            bench = chance.choice(THREE)
            try:
                machine = machine_of(chance_saying(chance, ["X", "Y", "x"], chance.randint(0, 4)), bench)
            except TooGreat:
                continue
            self.assertIs(is_web_machine(machine), True)
            self.assertIsNone(two_terms(machine))
            many += 1
        self.assertGreater(many, 60)

    def test_other_benches(self):
        chance = seeded(485)
        odd = Bench(2, (0,), ((((0, 0),), (), (0, 1), (0, 1)),))
        turned = Bench(1, (0,), tuple(COTREES.joins[::-1]))
        for bench in (NAMED["narrow_rows"], WIDE, odd, turned):
            machine = chance_machine(chance, bench, 1, 2)
            for call in (is_web_machine, joins_alike, two_terms):
                with self.assertRaises(NotOnTrees):
                    call(machine)


if __name__ == "__main__":
    unittest.main()
