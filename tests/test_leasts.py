import unittest

from lotsayings.benches import Bench
from lotsayings.errors import BadNumber
from lotsayings.founds import reached
from lotsayings.leasts import apart, groups, in_order, least
from lotsayings.machines import Machine
from lotsayings.terms import check_term, hung
from tests.helpers import NAMED, WIDE, chance_machine, chance_term, seeded
from tests.test_machines import circle, told_by_hand

TREES = Bench.trees()


def kinds_by_hand(machine):
    """Pairs of states that some context of reached states tells apart."""
    known = reached(machine)
    unlike = {
        (p, q) for p in range(machine.states) for q in range(machine.states)
        if (p in machine.accepted) != (q in machine.accepted)
    }
    changed = True
    while changed:
        changed = False
        for p in range(machine.states):
            for q in range(machine.states):
                if (p, q) in unlike:
                    continue
                for table in machine.rows:
                    if any((table[p][u], table[q][u]) in unlike or (table[u][p], table[u][q]) in unlike for u in known):
                        unlike.add((p, q))
                        changed = True
                        break
    return unlike


def doubled_states(chance, machine):
    """A machine with the same answers: some states stand twice, in a chance order, and one is not reached."""
    many = machine.states
    names = [state for state in range(many) for _ in range(2)] + [0]
    chance.shuffle(names)
    spare = len(names) - 1

    def pick(state):
        return chance.choice([k for k, name in enumerate(names) if name == state and k != spare] or [spare])

    if not all(any(name == state and k != spare for k, name in enumerate(names)) for state in range(many)):
        return machine
    rows = tuple(tuple(tuple(pick(table[p][q]) for q in names) for p in names) for table in machine.rows)
    leaves = tuple(tuple(pick(state) for state in row) for row in machine.leaves)
    accepted = tuple(k for k, name in enumerate(names) if name in machine.accepted)
    return Machine(machine.bench, machine.many, leaves, rows, accepted)


class LeastTest(unittest.TestCase):
    def machines(self, seed):
        chance = seeded(seed)
        for bench in list(NAMED.values()) + [WIDE]:
            for many in (0, 1, 2):
                for states in (1, 2, 4, 7):
                    machine = chance_machine(chance, bench, many, states)
                    yield chance, machine
                    yield chance, doubled_states(chance, machine)

    def test_same_answers_and_fewest_states(self):
        for chance, machine in self.machines(20):
            small = least(machine)
            unlike = kinds_by_hand(machine)
            known = reached(machine)
            kinds = {tuple(q for q in known if (p, q) not in unlike) for p in known}
            self.assertEqual(small.states, len(kinds))
            self.assertEqual(least(small), small)
            for _ in range(10):
                term = chance_term(chance, machine.bench, chance.randint(1, 8), machine.many)
                self.assertEqual(small.answers(term), machine.answers(term))
                self.assertEqual(groups(machine)[machine.state(term)], small.state(term))

    def test_numbered_in_the_order_of_finding(self):
        for chance, machine in self.machines(21):
            small = least(machine)
            leaf_of = {label: row for label, row in zip(machine.bench.starts, small.leaves)}
            told = told_by_hand(
                machine.bench, machine.many,
                lambda label, bits: leaf_of[label][sum(bit << k for k, bit in enumerate(bits))],
                lambda j, p, q: small.rows[j][p][q],
            )
            self.assertEqual(told.accepting(small.accepted), small)

    def test_machines_with_the_same_answers(self):
        for chance, machine in self.machines(22):
            self.assertEqual(least(doubled_states(chance, machine)), least(machine))

    def test_in_order(self):
        for chance, machine in self.machines(23):
            ordered = in_order(machine)
            self.assertEqual(ordered.states, len(reached(machine)))
            leaf_of = {label: row for label, row in zip(machine.bench.starts, machine.leaves)}
            told = told_by_hand(
                machine.bench, machine.many,
                lambda label, bits: leaf_of[label][sum(bit << k for k, bit in enumerate(bits))],
                lambda j, p, q: machine.rows[j][p][q],
            )
            self.assertEqual(told, ordered.accepting(()))
            for _ in range(5):
                term = chance_term(chance, machine.bench, chance.randint(1, 8), machine.many)
                self.assertEqual(ordered.answers(term), machine.answers(term))

    def test_groups(self):
        rows = ((1, 1, 0, 3), (2, 2, 0, 3), (1, 1, 0, 3), (3, 3, 3, 3))
        machine = Machine(TREES, 0, ((0,),), (rows,), (1, 2))
        self.assertEqual(reached(machine), (0, 1, 2))
        found = groups(machine)
        self.assertIsInstance(found, tuple)
        self.assertIsNone(found[3])
        for _, machine in self.machines(24):
            unlike = kinds_by_hand(machine)
            found = groups(machine)
            for p in range(machine.states):
                self.assertEqual(found[p] is None, p not in reached(machine))
                for q in reached(machine):
                    if found[p] is not None:
                        self.assertEqual(found[p] == found[q], (p, q) not in unlike)

    def test_300_states(self):
        small = least(circle(300))
        self.assertEqual(small.states, 300)
        half = circle(300).accepting(tuple(range(0, 300, 2)))
        self.assertEqual(least(half).states, 2)


class ApartTest(unittest.TestCase):
    def test_against_pairs_by_hand(self):
        chance = seeded(25)
        for bench in list(NAMED.values()) + [WIDE]:
            for many in (0, 1):
                for states in (1, 3, 6):
                    machine = doubled_states(chance, chance_machine(chance, bench, many, states))
                    unlike = kinds_by_hand(machine)
                    for p in range(machine.states):
                        for q in range(machine.states):
                            self.judge(machine, p, q, unlike)

    def judge(self, machine, p, q, unlike):
        context = apart(machine, p, q)
        if (p, q) not in unlike:
            self.assertIsNone(context)
            return
        if (p in machine.accepted) == (q in machine.accepted):
            self.assertIsNotNone(context)
        check_term(machine.bench, context, machine.many, hole=True)
        one = machine.state_in(context, p) in machine.accepted
        self.assertNotEqual(one, machine.state_in(context, q) in machine.accepted)

    def test_states_that_no_context_of_terms_tells_apart(self):
        rows = ((0, 0, 0), (0, 2, 1), (0, 1, 2))
        machine = Machine(TREES, 0, ((0,),), (rows,), (0,))
        self.assertIsNone(apart(machine, 1, 2))
        self.assertIsNone(apart(machine.accepting((1,)), 0, 2))

    def test_long_contexts(self):
        rows = tuple(tuple(min(p + 1, 150) for q in range(151)) for p in range(151))
        machine = Machine(TREES, 0, ((0,),), (rows,), (150,))
        context = apart(machine, 0, 1)
        self.assertEqual(machine.state_in(context, 0), 149)
        self.assertEqual(machine.state_in(context, 1), 150)
        self.assertEqual(context, hung(None, (0, ()), times=149))

    def test_errors(self):
        machine = circle(3)
        for state in (3, -1, True, None):
            for pair in ((state, 0), (0, state), (state, 7)):
                with self.assertRaises(BadNumber) as caught:
                    apart(machine, *pair)
                self.assertEqual(caught.exception.which, "state")


if __name__ == "__main__":
    unittest.main()
