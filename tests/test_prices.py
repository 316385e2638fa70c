import unittest
from itertools import product

from lotsayings.benches import Bench
from lotsayings.bests import best
from lotsayings.compiler import machine_of
from lotsayings.errors import BadNumber
from lotsayings.founds import useful
from lotsayings.leasts import least
from lotsayings.machines import Machine, bits_of
from lotsayings.prices import Prices, at_most, gain
from lotsayings.terms import bare, check_term, put, size_of, tracks_of
from tests.helpers import (
    BENCHES, NAMED, chance_context, chance_machine, chance_term, counting_machine, refused, seeded, small_terms,
)

TREES = Bench.trees()
LEAF = (0, ())
BELOW = ("all", "x", ("or", ("not", ("in", "x", "X")), ("to", "x", "Y")))


def leaf_gain(bits, form):
    return form[-1] + sum(bit * number for bit, number in zip(bits, form))


def gains_by_size(machine, form, most):
    """For each size a dict from states to the greatest gain of terms of this size and state."""
    found = [{}, {}]
    for row in machine.leaves:
        for number, state in enumerate(row):
            worth = leaf_gain(bits_of(number, machine.many), form)
            found[1][state] = max(worth, found[1].get(state, worth))
    for size in range(2, most + 1):
        greatest = {}
        for less in range(1, size):
            for p, one in found[less].items():
                for q, two in found[size - less].items():
                    for table in machine.rows:
                        state = table[p][q]
                        greatest[state] = max(one + two, greatest.get(state, one + two))
        found.append(greatest)
    return found


def greatest_of(rows):
    """The greatest gain of each state over all sizes told."""
    found = {}
    for row in rows:
        for state, worth in row.items():
            found[state] = max(worth, found.get(state, worth))
    return found


def sparse_machine(chance, bench, many, states, share=0.55):
    """A machine whose joins mostly lead to a state that is not useful, so that few terms fit."""
    dead = states - 1
    leaves = tuple(tuple(chance.randrange(states) for _ in range(1 << many)) for _ in bench.starts)

    def entry(p, q):
        if dead in (p, q) or chance.random() < share:
            return dead
        return chance.randrange(states)

    rows = tuple(tuple(tuple(entry(p, q) for q in range(states)) for p in range(states)) for _ in bench.joins)
    return Machine(bench, many, leaves, rows, tuple(state for state in range(dead) if chance.random() < 0.5))


class GainTest(unittest.TestCase):
    def test_gain(self):
        chance = seeded(1221)
        for _ in range(80):
            bench = chance.choice(BENCHES)
            many = chance.randint(0, 4)
            form = [chance.randint(-9, 9) for _ in range(many + 1)]
            term = chance_term(chance, bench, chance.randint(1, 9), many)
            told = form[-1] * size_of(term) + sum(x * len(lot) for x, lot in zip(form, tracks_of(term)))
            self.assertEqual(gain(term, form), told)
            context = chance_context(chance, bench, chance.randint(0, 6), many)
            self.assertEqual(gain(put(context, term), tuple(form)), gain(context, form) + told)
        self.assertEqual([gain(None, (1,)), gain(None, [9, 9]), gain(LEAF, [-9])], [0, 0, -9])

    def test_great_term(self):
        term = chance_term(seeded(1222), TREES, 200, 5)
        self.assertEqual(gain(term, [0] * 5 + [9]), 1800)

    def test_forms(self):
        for wrong in ((), [0] * 7, (10,), (-10,), (True,), (None,), "1", None, 5, {1: 1}, (1, "2")):
            refused(self, BadNumber, lambda: gain(LEAF, wrong), "form")


class PricesTest(unittest.TestCase):
    def check_pays(self, machine, form, prices):
        """That the prices pay, as point 123 tells it."""
        for label in range(len(machine.leaves)):
            for number, state in enumerate(machine.leaves[label]):
                if prices[state] is not None:
                    self.assertLessEqual(leaf_gain(bits_of(number, machine.many), form), prices[state])
        for table in machine.rows:
            for p, q in product(range(machine.states), repeat=2):
                if prices[table[p][q]] is not None:
                    self.assertLessEqual(prices[p] + prices[q], prices[table[p][q]])

    def check_loop(self, machine, form, loop):
        context, state = loop
        check_term(machine.bench, context, machine.many, hole=True)
        self.assertIsNotNone(context)
        self.assertIn(state, useful(machine))
        self.assertEqual(machine.state_in(context, state), state)
        self.assertGreater(gain(context, form), 0)

    def check(self, machine, form):
        told = Prices(machine, form)
        whole = least(machine)
        self.assertEqual((told.machine, told.form), (whole, tuple(form)))
        live = useful(whole)
        if not told.bounded:
            self.assertEqual((told.bounded, told.bound, told.top, told.prices), (False, None, None, None))
            self.check_loop(whole, form, told.loop)
            return "loop"
        self.assertIs(told.bounded, True)
        self.assertIsNone(told.loop)
        self.assertEqual([price is not None for price in told.prices], [s in live for s in range(whole.states)])
        self.check_pays(whole, form, told.prices)
        # Without loops that gain some term of the greatest gain has no state twice on a way from the top.
        greatest = greatest_of(gains_by_size(whole, form, 1 << max(0, len(live) - 1)))
        self.assertEqual([told.prices[state] for state in live], [greatest[state] for state in live])
        if not whole.accepted:
            self.assertEqual((told.bound, told.top), (None, None))
            return "nothing"
        self.assertEqual(told.bound, max(told.prices[state] for state in whole.accepted))
        check_term(machine.bench, told.top, machine.many)
        self.assertTrue(machine.answers(told.top))
        self.assertEqual(gain(told.top, form), told.bound)
        return "bound"

    def test_chance_machines(self):
        chance = seeded(1223)
        kinds = {}
        for turn in range(250):
            bench = BENCHES[turn % len(BENCHES)]
            many = chance.randint(0, 2)
            make = sparse_machine if turn % 2 else chance_machine
            machine = make(chance, bench, many, chance.randint(1, 5))
            most = chance.choice([1, 3, 9])
            form = [chance.randint(-most, most) for _ in range(many + 1)]
            kind = self.check(machine, form)
            kinds[kind] = kinds.get(kind, 0) + 1
        self.assertGreater(min(kinds["loop"], kinds["bound"]), 50, kinds)
        self.assertGreater(kinds["nothing"], 5)

    def test_compiled_machines(self):
        sayings = [
            BELOW, ("not", ("to", "X", "X")), ("count", "X", 1, 2, 1), ("arrows", "X", "every", 2, 3, 1),
            ("to", "X", ("-", "every", "X")), ("and", ("count", "X", 2, 2, 3), ("not", ("to", "every", "X"))),
        ]
        for saying, bench in product(sayings, NAMED.values()):
            machine = machine_of(saying, bench)
            for numbers in ((1, 0), (1, -1), (-2, 1), (3, -2)):
                form = numbers[:1] * machine.many + numbers[1:]
                told = Prices(machine, form)
                if not told.bounded:
                    self.check_loop(told.machine, form, told.loop)
                    continue
                self.check_pays(told.machine, form, told.prices)
                if told.bound is None:
                    self.assertEqual((told.top, told.machine.accepted), (None, ()))
                    continue
                self.assertEqual(gain(told.top, form), told.bound)
                self.assertTrue(machine.answers(told.top))
                for term in small_terms(bench, 3, machine.many):
                    if machine.answers(term):
                        self.assertLessEqual(gain(term, form), told.bound)

    def test_loops_go_on(self):
        machine = machine_of(("not", ("to", "X", "X")), TREES)
        told = Prices(machine, (2, -1))
        context, state = told.loop
        term = chance_term(seeded(1), TREES, 1, 1)
        for bits in ((0,), (1,)):
            if machine.state((0, bits)) == state:
                term = (0, bits)
        gains = []
        for _ in range(6):
            gains.append(gain(term, (2, -1)))
            term = put(context, term)
            self.assertTrue(machine.answers(term))
        self.assertEqual({y - x for x, y in zip(gains, gains[1:])}, {gain(context, (2, -1))})

    def test_doubled_and_joined(self):
        chance = seeded(1224)
        kinds = set()
        for turn in range(80):
            bench = BENCHES[turn % len(BENCHES)]
            one = sparse_machine(chance, bench, 1, chance.randint(2, 4))
            two = sparse_machine(chance, bench, 1, chance.randint(2, 4))
            form = [chance.randint(-4, 4) for _ in range(2)]
            told = [Prices(machine, form) for machine in (one, two, one | two, one & two)]
            self.assertIs(told[2].bounded, told[0].bounded and told[1].bounded)
            if told[2].bounded:
                bounds = [prices.bound for prices in told[:2] if prices.bound is not None]
                self.assertEqual(told[2].bound, max(bounds, default=None))
            if told[0].bounded:
                self.assertTrue(told[3].bounded)
                if told[3].bound is not None:
                    self.assertLessEqual(told[3].bound, told[0].bound)
                double = Prices(one, [2 * number for number in form])
                self.assertEqual(double.bound, None if told[0].bound is None else 2 * told[0].bound)
            kinds.add((told[0].bounded, told[1].bounded, told[2].bound is None))
        self.assertGreater(len(kinds), 4)

    def test_best_of_ones(self):
        chance = seeded(1225)
        for turn in range(40):
            bench = BENCHES[turn % len(BENCHES)]
            machine = sparse_machine(chance, bench, 1, chance.randint(2, 4))
            told = Prices(machine, (1, 0))
            found = [best(machine, term, [1] * size_of(term)) for term in small_terms(bench, 3, 0)]
            known = [number for number in found if number is not None]
            if told.bounded and told.bound is not None:
                self.assertLessEqual(max(known, default=0), told.bound)
                self.assertEqual(best(machine, bare(told.top), [1] * size_of(told.top)), told.bound)
            elif told.bounded:
                self.assertEqual(known, [])

    def test_many_states(self):
        chance = seeded(1226)
        for bench in (TREES, Bench.cotrees()):
            for states in (60, 100):
                machine = chance_machine(chance, bench, 2, states)
                for form in ((1, 0, -1), (1, 1, -1), (9, -9, 0), (-1, 0, 0), (0, 0, 0), (0, 0, -1)):
                    told = Prices(machine, form)
                    if told.bounded:
                        self.check_pays(told.machine, form, told.prices)
                        self.assertEqual(gain(told.top, form), told.bound)
                    else:
                        self.check_loop(told.machine, form, told.loop)
        counting = counting_machine(TREES, 1, 100)
        self.assertEqual(Prices(counting, (0, -1)).prices[:3], (-1, -1, -2))
        self.assertEqual(Prices(counting, (-3, 0)).prices[:3], (0, -3, -6))
        self.check_loop(least(counting), (9, -8), Prices(counting, (9, -8)).loop)

    def test_known_prices(self):
        even = Machine(TREES, 0, ((0,),), (((1, 0), (0, 1)),), (1,))
        told = Prices(even, (-1,))
        self.assertEqual((told.bound, told.prices, told.top), (-2, (-1, -2), (0, LEAF, LEAF)))
        self.assertEqual((Prices(even, (0,)).bound, Prices(even, (1,)).bounded), (0, False))
        apart = machine_of(("not", ("to", "X", "X")), TREES)
        self.assertEqual(Prices(apart, [1, -1]).prices, (-1, 0, None))
        self.assertEqual(Prices(apart, [1, -1]).bound, 0)

    def test_forms(self):
        machine = chance_machine(seeded(1227), TREES, 1, 3)
        for wrong in ((1,), (1, 2, 3), (10, 0), (0, -10), (True, 0), (None, 1), "12", None, 7, {1: 1, 2: 2}, ()):
            refused(self, BadNumber, lambda: Prices(machine, wrong), "form")
        form = [9, -9]
        self.assertEqual(Prices(machine, form).form, (9, -9))
        self.assertEqual(form, [9, -9])


class AtMostTest(unittest.TestCase):
    def test_at_most(self):
        below = machine_of(BELOW, TREES)
        self.assertEqual((at_most(below, 0, 1), at_most(below, 1, 0)), (0, None))
        self.assertEqual((at_most(below, 0, 0), at_most(below, 1, 1)), (0, 0))
        nothing = below.accepting(())
        self.assertEqual([at_most(nothing, 0, 1), at_most(nothing, 1, 1)], [None, None])
        more = machine_of(("and", BELOW, ("count", ("-", "X", "Y"), 2, 3, 1)), TREES)
        self.assertEqual(at_most(more, 0, 1), 0)
        inner = machine_of(("and", ("in", "Y", "X"), ("count", ("-", "X", "Y"), 3, 4, 1)), TREES)
        self.assertEqual((at_most(inner, 0, 1), at_most(inner, 1, 0)), (3, -3))
        capped = machine_of(("not", ("count", ("-", "X", "Y"), 3, 3, 1)), Bench.cotrees())
        self.assertEqual((at_most(capped, 0, 1), at_most(capped, 1, 0)), (2, None))

    def test_all_small_terms(self):
        chance = seeded(1228)
        numbers = set()
        for turn in range(80):
            bench = BENCHES[turn % len(BENCHES)]
            machine = sparse_machine(chance, bench, 2, chance.randint(2, 5))
            told = at_most(machine, 0, 1)
            fits = [term for term in small_terms(bench, 3 if len(bench) == 1 else 2, 2) if machine.answers(term)]
            differences = [len(tracks_of(term)[0]) - len(tracks_of(term)[1]) for term in fits]
            if told is not None:
                self.assertLessEqual(max(differences, default=told), told)
                numbers.add(told)
            elif useful(machine):
                self.assertFalse(Prices(machine, (1, -1, 0)).bounded)
        self.assertGreater(len(numbers), 3)

    def test_refusals_in_their_order(self):
        machine = chance_machine(seeded(1229), TREES, 2, 3)
        for wrong in (-1, 2, True, None, "0"):
            refused(self, BadNumber, lambda: at_most(machine, wrong, "no"), "track")
            refused(self, BadNumber, lambda: at_most(machine, 1, wrong), "other")
        single = chance_machine(seeded(1230), TREES, 0, 3)
        refused(self, BadNumber, lambda: at_most(single, 0, 0), "track")


if __name__ == "__main__":
    unittest.main()
