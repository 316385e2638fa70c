import unittest

from lotsayings.benches import Bench
from lotsayings.errors import BadNumber
from lotsayings.founds import first_terms, reached, useful, way_out
from lotsayings.machines import Machine
from lotsayings.terms import check_term, size_of
from tests.helpers import NAMED, WIDE, chance_machine, seeded, small_terms

TREES = Bench.trees()


def doubling(states):
    """State k + 1 comes only from two parts of state k; the last one is accepted, as many more are lost."""
    lost = states
    rows = tuple(
        tuple(p + 1 if p == q and p + 1 < states else lost for q in range(states + 1)) for p in range(states + 1)
    )
    return Machine(TREES, 0, ((0,),), (rows,), (states - 1,))


def fewest_by_hand(machine):
    """The least size for each state, by going on till nothing changes."""
    sizes = {}
    for row in machine.leaves:
        for state in row:
            sizes[state] = 1
    changed = True
    while changed:
        changed = False
        for table in machine.rows:
            for p in list(sizes):
                for q in list(sizes):
                    x = table[p][q]
                    if sizes[p] + sizes[q] < sizes.get(x, 10 ** 9):
                        sizes[x] = sizes[p] + sizes[q]
                        changed = True
    return sizes


def ways_by_hand(machine):
    """The fewest places of a context to an accepted state, for each state."""
    sizes = fewest_by_hand(machine)
    costs = {state: 0 for state in machine.accepted}
    changed = True
    while changed:
        changed = False
        for table in machine.rows:
            for p in range(machine.states):
                for q, size in sizes.items():
                    for x in (table[p][q], table[q][p]):
                        if x in costs and costs[x] + size < costs.get(p, 10 ** 9):
                            costs[p] = costs[x] + size
                            changed = True
    return costs


def context_size(context):
    return 0 if context is None else size_of(context)


class FoundsTest(unittest.TestCase):
    def test_against_going_on_till_nothing_changes(self):
        chance = seeded(18)
        for bench in list(NAMED.values()) + [WIDE]:
            for states in (1, 2, 5, 9, 14):
                for many in (0, 1):
                    machine = chance_machine(chance, bench, many, states)
                    if chance.random() < 0.5 and states > 3:
                        machine = machine.accepting((states - 1,))
                    sizes = fewest_by_hand(machine)
                    costs = ways_by_hand(machine)
                    terms = first_terms(machine)
                    self.assertIsInstance(terms, tuple)
                    self.assertEqual(len(terms), states)
                    self.assertEqual(reached(machine), tuple(sorted(sizes)))
                    self.assertEqual(useful(machine), tuple(sorted(set(sizes) & set(costs))))
                    for state in range(states):
                        if state not in sizes:
                            self.assertIsNone(terms[state])
                            self.assertIsNone(way_out(machine, state))
                            continue
                        self.assertEqual(machine.state(terms[state]), state)
                        self.assertEqual(size_of(terms[state]), sizes[state])
                        context = way_out(machine, state)
                        if state not in costs:
                            self.assertIsNone(context)
                            continue
                        check_term(bench, context, many, hole=True)
                        self.assertIn(machine.state_in(context, state), machine.accepted)
                        self.assertEqual(context_size(context), costs[state])

    def test_few_answers_need_few_places(self):
        chance = seeded(19)
        for _ in range(20):
            machine = chance_machine(chance, Bench.cotrees(), 1, 5)
            found = {}
            for term in small_terms(machine.bench, 4, 1):
                found.setdefault(machine.state(term), size_of(term))
            for state, term in enumerate(first_terms(machine)):
                if state in found:
                    self.assertEqual(size_of(term), found[state])

    def test_a_state_that_needs_32_places(self):
        machine = doubling(6)
        terms = first_terms(machine)
        self.assertEqual([size_of(term) for term in terms], [1, 2, 4, 8, 16, 32, 3])
        self.assertEqual(size_of(way_out(machine, 0)), 31)
        self.assertEqual(size_of(way_out(machine, 4)), 16)
        self.assertIsNone(way_out(machine, 5))
        self.assertIsNone(way_out(machine, 6))
        self.assertEqual(useful(machine), (0, 1, 2, 3, 4, 5))
        self.assertEqual(reached(machine), (0, 1, 2, 3, 4, 5, 6))

    def test_states_that_are_not_reached(self):
        rows = ((0, 0, 0), (0, 0, 2), (0, 2, 2))
        machine = Machine(TREES, 0, ((0,),), (rows,), (0, 2))
        self.assertEqual(first_terms(machine), ((0, ()), None, None))
        self.assertEqual(reached(machine), (0,))
        self.assertEqual(useful(machine), (0,))
        self.assertIsNone(way_out(machine, 1))
        self.assertIsNone(way_out(machine, 2))
        nothing = machine.accepting(())
        self.assertEqual(useful(nothing), ())
        self.assertIsNone(way_out(nothing, 0))

    def test_errors(self):
        for state in (7, -1, True, None, "0"):
            with self.assertRaises(BadNumber) as caught:
                way_out(doubling(6), state)
            self.assertEqual(caught.exception.which, "state")

    def test_300_states(self):
        rows = tuple(tuple(min(p + q + 1, 299) for q in range(300)) for p in range(300))
        machine = Machine(TREES, 0, ((0,),), (rows,), (199,))
        terms = first_terms(machine)
        self.assertEqual([size_of(terms[state]) for state in (0, 57, 199)], [1, 58, 200])
        self.assertEqual(size_of(way_out(machine, 0)), 199)
        self.assertEqual(len(reached(machine)), 300)
        self.assertEqual(useful(machine), tuple(range(200)))


if __name__ == "__main__":
    unittest.main()
