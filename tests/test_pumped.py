import unittest

from lotsayings.benches import Bench
from lotsayings.errors import BadNumber, BadTerm
from lotsayings.machines import Machine
from lotsayings.pumped import map_of, pumped_size, pumped_state
from lotsayings.terms import put, size_of
from tests.helpers import BENCHES, chance_context, chance_machine, chance_term, counting_machine, refused, seeded

TREES = Bench.trees()
LEAF = (0, ())
HANG = (0, None, LEAF)


def pumped_term(outer, inner, times, term):
    for _ in range(times):
        term = put(inner, term)
    return put(outer, term)


class MapTest(unittest.TestCase):
    def test_map(self):
        chance = seeded(1251)
        for turn in range(80):
            bench = BENCHES[turn % len(BENCHES)]
            many = chance.randint(0, 2)
            machine = chance_machine(chance, bench, many, chance.randint(1, 9))
            one = chance_context(chance, bench, chance.randint(0, 8), many)
            two = chance_context(chance, bench, chance.randint(0, 8), many)
            goals = map_of(machine, one)
            self.assertEqual(goals, tuple(machine.state_in(one, state) for state in range(machine.states)))
            inner = map_of(machine, two)
            self.assertEqual(map_of(machine, put(one, two)), tuple(goals[state] for state in inner))
            term = chance_term(chance, bench, chance.randint(1, 5), many)
            self.assertEqual(machine.state(put(one, term)), goals[machine.state(term)])
        self.assertEqual(map_of(machine, None), tuple(range(machine.states)))

    def test_own_states(self):
        # State 2 is not reached, and no context tells the others apart.
        machine = Machine(TREES, 0, ((0,),), (((1, 0, 2), (0, 1, 0), (2, 1, 0)),), ())
        self.assertEqual(map_of(machine, HANG), (1, 0, 2))
        self.assertEqual(map_of(machine, (0, LEAF, None)), (1, 0, 2))
        self.assertEqual(map_of(machine, (0, HANG, LEAF)), (0, 1, 2))

    def test_great(self):
        machine = counting_machine(TREES, 0, 300)
        context = None
        for turn in range(200):
            context = (0, context, LEAF) if turn % 2 else (0, LEAF, context)
        self.assertEqual(map_of(machine, context)[:3], (200, 201, 202))
        self.assertEqual(map_of(machine, context)[100:102], (0, 1))

    def test_context(self):
        machine = chance_machine(seeded(1252), TREES, 0, 2)
        for wrong, path in ((LEAF, ()), ((0, None, None), ()), ((0, None, (0, (1,))), (1,)), ((1, None, LEAF), ())):
            refused(self, BadTerm, lambda: map_of(machine, wrong), path)


class PumpedTest(unittest.TestCase):
    def test_few_times(self):
        chance = seeded(1253)
        for turn in range(80):
            bench = BENCHES[turn % len(BENCHES)]
            many = chance.randint(0, 2)
            machine = chance_machine(chance, bench, many, chance.randint(1, 6))
            outer = chance_context(chance, bench, chance.randint(0, 4), many)
            inner = chance_context(chance, bench, chance.randint(0, 4), many)
            term = chance_term(chance, bench, chance.randint(1, 4), many)
            for times in (0, 1, 2, 3, 7, 20):
                whole = pumped_term(outer, inner, times, term)
                self.assertEqual(pumped_state(machine, outer, inner, times, term), machine.state(whole))
                self.assertEqual(pumped_size(outer, inner, times, term), size_of(whole))

    def test_many_times(self):
        chance = seeded(1254)
        for turn in range(60):
            bench = BENCHES[turn % len(BENCHES)]
            machine = chance_machine(chance, bench, 1, chance.randint(1, 30))
            outer = chance_context(chance, bench, chance.randint(0, 4), 1)
            inner = chance_context(chance, bench, chance.randint(1, 3), 1)
            term = chance_term(chance, bench, 2, 1)
            goals = map_of(machine, inner)
            walk = [machine.state(term)]
            while walk[-1] not in walk[:-1]:
                walk.append(goals[walk[-1]])
            start = walk.index(walk[-1])
            ring = len(walk) - 1 - start
            for times in (10 ** 9, 10 ** 9 - 1, 999999937, 10 ** 6):
                state = walk[start + (times - start) % ring]
                told = pumped_state(machine, outer, inner, times, term)
                self.assertEqual(told, map_of(machine, outer)[state])

    def test_circle(self):
        machine = counting_machine(TREES, 0, 300)
        self.assertEqual(pumped_state(machine, None, HANG, 10 ** 9, LEAF), (10 ** 9 + 1) % 300)
        self.assertEqual(pumped_state(machine, HANG, None, 10 ** 9, LEAF), 2)
        self.assertEqual(pumped_size(HANG, None, 10 ** 9, LEAF), 2)
        self.assertEqual(pumped_size(None, (0, HANG, LEAF), 10 ** 9, HANG[2]), 2 * 10 ** 9 + 1)

    def test_refusals_in_their_order(self):
        machine = chance_machine(seeded(1255), TREES, 0, 2)
        bad = (0, None, (0, (1,)))
        refused(self, BadTerm, lambda: pumped_state(machine, bad, LEAF, -1, None), (1,))
        refused(self, BadTerm, lambda: pumped_state(machine, HANG, LEAF, -1, None), ())
        refused(self, BadTerm, lambda: pumped_state(machine, HANG, (0, (0, None, LEAF), None), -1, None), ())
        for times in (-1, 10 ** 9 + 1, True, None, "1"):
            refused(self, BadNumber, lambda: pumped_state(machine, HANG, HANG, times, None), "times")
            refused(self, BadNumber, lambda: pumped_size(HANG, HANG, times, LEAF), "times")
        for term, path in ((None, ()), ((0, LEAF, (1, ())), (1,)), (HANG, (0,))):
            refused(self, BadTerm, lambda: pumped_state(machine, HANG, HANG, 0, term), path)


if __name__ == "__main__":
    unittest.main()
