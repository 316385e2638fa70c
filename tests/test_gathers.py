import unittest
from math import gcd

from lotsayings.benches import Bench
from lotsayings.errors import BadNumber, NotOnTrees, NotWeb, TooMany
from lotsayings.gathers import Gather
from lotsayings.leasts import least
from lotsayings.machines import Machine
from lotsayings.rings import ring
from lotsayings.terms import hung
from tests.helpers import chance_cuts, chance_machine, chance_web_machine, seeded

TREES = Bench.trees()
LAST = Machine(TREES, 0, ((0,),), (((1, 0), (1, 0)),), (1,))


def one_by_hand(table, base, kind):
    return tuple(sorted({table[p][c] for p in base for c in kind}))


def many_by_hand(table, d, base, kind, rest):
    """What comes for ever again: looks at the sets together with their numbers by d until both come again."""
    row = []
    at = (base, 0)
    while at not in row:
        row.append(at)
        at = (one_by_hand(table, at[0], kind), (at[1] + 1) % d)
    return tuple(sorted({x for states, n in row[row.index(at):] if n == rest for x in states}))


def gather_by_hand(machine, d):
    """The least collection, by making all sets of all known ones until nothing new comes."""
    table = machine.rows[0]
    known = {(q,) for q in machine.leaves[0]}
    while True:
        fresh = {one_by_hand(table, base, kind) for base in known for kind in known}
        for base in known:
            for kind in known:
                fresh |= {many_by_hand(table, d, base, kind, rest) for rest in range(d)}
        if fresh <= known:
            return sorted(known)
        known |= fresh


def with_more_states(chance, machine):
    """The machine with two states more that no tree reaches, its states in another order."""
    states = machine.states + 2
    order = list(range(states))
    chance.shuffle(order)
    table = [[chance.randrange(states) for _ in range(states)] for _ in range(states)]
    for p in range(machine.states):
        for q in range(machine.states):
            table[order[p]][order[q]] = order[machine.rows[0][p][q]]
    leaves = (tuple(order[q] for q in machine.leaves[0]),)
    accepted = tuple(sorted(order[q] for q in machine.accepted))
    return Machine(TREES, machine.many, leaves, (tuple(tuple(row) for row in table),), accepted)


def small_web_machine(chance, most):
    while True:
        machine = chance_web_machine(chance, chance.randint(0, 1), chance_cuts(chance))
        if machine.states <= most:
            return machine


class GatherTest(unittest.TestCase):
    def test_against_the_definition(self):
        chance = seeded(641)
        sizes = set()
        for turn in range(70):
            machine = small_web_machine(chance, 7)
            if turn % 2:
                machine = with_more_states(chance, machine)
            d = turn % 6 + 1
            sets = gather_by_hand(machine, d)
            gather = Gather(machine, d)
            self.assertEqual(list(gather), sets)
            self.assertEqual((gather.number, len(gather)), (len(sets), len(sets)))
            self.assertEqual((gather.machine, gather.d), (machine, d))
            table = machine.rows[0]
            for base in sets[:12]:
                for kind in sets[-12:]:
                    self.assertEqual(gather.one(base, kind), one_by_hand(table, base, kind))
                    for rest in range(d):
                        made = many_by_hand(table, d, base, kind, rest)
                        self.assertEqual(gather.some_of(base, kind, rest), made)
            self.judge_made(gather, machine)
            sizes.add(max(len(states) for states in sets))
        self.assertTrue({1, 2, 3} <= sizes)

    def judge_made(self, gather, machine):
        """From each set leaves are come to in the end: what a set is made of is made in fewer steps."""
        depths = {}
        todo = list(gather)
        while todo:
            late = []
            for states in todo:
                made = gather.made(states)
                self.assertIsInstance(made, tuple)
                if made[0] == "leaf":
                    self.assertEqual(states, (machine.leaves[0][made[1]],))
                    depths[states] = 0
                    continue
                self.assertIn(made[1], gather)
                self.assertIn(made[2], gather)
                if made[0] == "one":
                    self.assertEqual(len(made), 3)
                    self.assertEqual(gather.one(made[1], made[2]), states)
                else:
                    self.assertEqual((made[0], len(made)), ("many", 4))
                    self.assertEqual(gather.some_of(made[1], made[2], made[3]), states)
                if made[1] in depths and made[2] in depths:
                    depths[states] = 1 + max(depths[made[1]], depths[made[2]])
                else:
                    late.append(states)
            self.assertLess(len(late), len(todo))
            todo = late

    def test_order_of_hanging_does_not_matter(self):
        chance = seeded(642)
        for _ in range(30):
            machine = small_web_machine(chance, 8)
            gather = Gather(machine, chance.randint(1, 6))
            sets = list(gather)
            for _ in range(20):
                base, kind, other = [chance.choice(sets) for _ in range(3)]
                two = gather.one(gather.one(base, kind), other)
                self.assertEqual(two, gather.one(gather.one(base, other), kind))
                after = gather.one(gather.some_of(base, kind, 0), other)
                self.assertEqual(after, gather.some_of(gather.one(base, other), kind, 0))

    def test_told_facts(self):
        chance = seeded(643)
        for _ in range(40):
            machine = least(small_web_machine(chance, 8))
            gathers = {d: Gather(machine, d) for d in range(1, 7)}
            for d, gather in gathers.items():
                for state in range(machine.states):
                    self.assertIn((state,), gather)
                self.assertEqual(list(gather), list(gathers[gcd(d, ring(machine))]) if gcd(d, ring(machine)) < 7 else 0)
                for more in range(2 * d, 7, d):
                    for states in gathers[more]:
                        self.assertTrue(any(set(states) <= set(other) for other in gather))

    def test_example(self):
        even = Machine(TREES, 0, ((0,),), (((1, 0), (0, 1)),), (1,))
        self.assertEqual(list(Gather(even, 1)), [(0,), (0, 1), (1,)])
        self.assertEqual(list(Gather(even, 2)), [(0,), (1,)])
        self.assertEqual(Gather(even, 1).some_of((0,), (0,), 0), (0, 1))
        self.assertEqual(Gather(even, 4).some_of((0,), (0,), 3), (1,))
        self.assertEqual(Gather(even, 3).some_of((0,), (0,), 2), (0, 1))

    def test_values_in_it(self):
        gather = Gather(Machine(TREES, 0, ((0,),), (((1, 0), (0, 1)),), (1,)), 1)
        for value in ((0,), (1,), (0, 1)):
            self.assertIs(value in gather, True)
        for value in ((), (1, 0), (0, 0), (2,), [0], (True,), (False, 1), ([0],), ({},), None, 0, "0", {0}, (0, None)):
            self.assertIs(value in gather, False)

    def test_meets(self):
        chance = seeded(644)
        seen = set()
        for _ in range(60):
            machine = small_web_machine(chance, 7)
            gather = Gather(machine, chance.randint(1, 3))
            first = tuple(q for q in range(machine.states) if chance.random() < 0.3)
            second = tuple(q for q in range(machine.states) if q not in first and chance.random() < 0.3)
            fits = [states for states in gather if set(states) & set(first) and set(states) & set(second)]
            self.assertEqual(gather.meets(first, second), min(fits, default=None))
            seen.add(bool(fits))
        self.assertEqual(seen, {True, False})
        self.assertEqual(Gather(machine, 1).meets((machine.leaves[0][0],), machine.leaves[0])[0] >= 0, True)
        self.assertIsNone(Gather(machine, 1).meets((), tuple(range(machine.states))))


def capped(states, circle):
    """Counts the places below the root, those beyond a bound by the length of a circle."""
    around = {states - 1: states - circle}
    rows = tuple(tuple(around.get(p, p + 1) for _ in range(states)) for p in range(states))
    return Machine(TREES, 0, ((0,),), (rows,), (0,))


class RefusalTest(unittest.TestCase):
    def refused(self, kind, attributes, call, *passed):
        with self.assertRaises(kind) as caught:
            call(*passed)
        self.assertEqual(vars(caught.exception), attributes)

    def test_order(self):
        for bench in (Bench.boughs(), Bench.cotrees(), Bench.narrow_rows()):
            self.refused(NotOnTrees, {}, Gather, chance_machine(seeded(645), bench, 0, 3), 0)
        self.refused(NotWeb, {}, Gather, LAST, 0)
        for d in (0, 7, -1, True, None, "1"):
            self.refused(BadNumber, {"which": "d"}, Gather, capped(300, 2), d)
        self.refused(TooMany, {"which": "sets"}, Gather, capped(300, 2), 1)

    def test_only_states_that_trees_reach(self):
        table = ((0, 2, 1), (2, 0, 1), (1, 0, 2))
        self.assertEqual(list(Gather(Machine(TREES, 0, ((0,),), (table,), ()), 2)), [(0,)])
        self.refused(NotWeb, {}, Gather, Machine(TREES, 1, ((0, 1),), (table,), ()), 2)
        same = Machine(TREES, 1, ((0, 1),), (((0, 1), (0, 0)),), ())
        self.assertEqual(least(same).states, 1)
        self.refused(NotWeb, {}, Gather, same, 1)

    def test_three_hundred_sets(self):
        self.assertEqual(Gather(capped(300, 1), 1).number, 300)
        self.assertEqual(Gather(capped(300, 2), 2).number, 300)
        self.refused(TooMany, {"which": "sets"}, Gather, capped(300, 2), 1)
        self.assertEqual(Gather(capped(299, 2), 1).number, 300)
        self.assertEqual(len(Gather(capped(299, 2), 3)), 300)
        self.refused(TooMany, {"which": "sets"}, Gather, capped(300, 3), 4)

    def test_methods(self):
        gather = Gather(capped(4, 2), 2)
        for wrong in ((), (4,), [0], (1, 0), None, (True,), 0):
            self.refused(BadNumber, {"which": "set"}, gather.one, wrong, (0,))
            self.refused(BadNumber, {"which": "set"}, gather.one, (0,), wrong)
            self.refused(BadNumber, {"which": "set"}, gather.some_of, (0,), wrong, 9)
            self.refused(BadNumber, {"which": "set"}, gather.some_of, wrong, (0,), 9)
            self.refused(BadNumber, {"which": "set"}, gather.made, wrong)
        for rest in (2, -1, True, None, 9):
            self.refused(BadNumber, {"which": "rest"}, gather.some_of, (0,), (0,), rest)
        self.assertEqual(gather.made((0,)), ("leaf", 0))


class CopiesTest(unittest.TestCase):
    def numbers(self, machine, term):
        """For each state the number of lots of the term with which the machine has it."""
        if len(term) == 2:
            found = {}
            for bit in (0, 1):
                state = machine.state((0, term[1] + (bit,)))
                found[state] = found.get(state, 0) + 1
            return found
        found = {}
        left, right = [self.numbers(machine, part) for part in term[1:]]
        for p, many in left.items():
            for q, more in right.items():
                state = machine.rows[0][p][q]
                found[state] = found.get(state, 0) + many * more
        return found

    def test_equal_copies(self):
        """Point 63: modulo a prime only the lots that are the same on all copies count."""
        chance = seeded(646)
        for _ in range(60):
            machine = least(chance_web_machine(chance, chance.randint(1, 2), chance_cuts(chance)))
            leaf = (0, (1,) * (machine.many - 1))
            t = hung(leaf, leaf, times=chance.randint(0, 2))
            u = hung(leaf, (0, leaf, leaf), times=chance.randint(0, 2))
            for p in (2, 3, 5):
                whole = self.numbers(machine, hung(t, u, times=p))
                alike = {}
                for y, many in self.numbers(machine, t).items():
                    for q, more in self.numbers(machine, u).items():
                        state = y
                        for _ in range(p):
                            state = machine.rows[0][state][q]
                        alike[state] = alike.get(state, 0) + many * more
                for state in range(machine.states):
                    self.assertEqual(whole.get(state, 0) % p, alike.get(state, 0) % p)


if __name__ == "__main__":
    unittest.main()
