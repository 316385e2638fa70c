import unittest
from itertools import product

from lotsayings.benches import Bench
from lotsayings.compiler import machine_of
from lotsayings.errors import BadNumber, BadTerm, LotError, OtherTracks, TooGreat
from lotsayings.machines import Machine
from lotsayings.meanings import number_fitting
from lotsayings.numbers import number_of, number_row, rest_term, rests_of
from lotsayings.steps import rows_without
from lotsayings.terms import all_terms, hung, size_of, web_of
from lotsayings.verdicts import always
from tests.helpers import (
    NAMED, WIDE, all_lots, chance_machine, chance_saying, chance_term, seeded, small_terms, with_bit,
)

TREES = Bench.trees()
LEAF = (0, ())


def row_by_hand(machine, term, inside, outside):
    """The number row, all lots one by one."""
    row = [0] * machine.states
    size = size_of(term)
    for lot in all_lots(size):
        state = machine.state(with_bit(term, machine.many - 1, lot))
        row[state] += inside ** len(lot) * outside ** (size - len(lot))
    return tuple(row)


class NumberTest(unittest.TestCase):
    def test_all_lots_one_by_one(self):
        chance = seeded(921)
        for _ in range(120):
            bench = chance.choice(list(NAMED.values()) + [WIDE])
            machine = chance_machine(chance, bench, chance.randint(1, 3), chance.randint(1, 6))
            term = chance_term(chance, bench, chance.randint(1, 7), machine.many - 1)
            inside = chance.randint(-9, 9)
            outside = chance.randint(-9, 9)
            row = number_row(machine, term, inside=inside, outside=outside)
            self.assertEqual(row, row_by_hand(machine, term, inside, outside))
            self.assertEqual(sum(row), (inside + outside) ** size_of(term))
            number = number_of(machine, term, inside=inside, outside=outside)
            self.assertEqual(number, sum(row[state] for state in machine.accepted))
            self.assertEqual(number_row(machine, term), row_by_hand(machine, term, 1, 1))
            self.assertEqual(number_row(machine, term, outside=0), row_by_hand(machine, term, 1, 0))
            self.assertEqual(number_of(machine, term, inside=0), sum(
                row_by_hand(machine, term, 0, 1)[state] for state in machine.accepted
            ))
            self.assertEqual(number_row(machine, term, inside=0, outside=0), (0,) * machine.states)

    def test_meanings(self):
        chance = seeded(922)
        for _ in range(60):
            bench = chance.choice(list(NAMED.values()))
            saying = chance_saying(chance, ["X", "Y"], chance.randint(0, 2))
            try:
                machine = machine_of(saying, bench, names=["Y", "X"])
            except TooGreat:
                continue
            term = chance_term(chance, bench, chance.randint(1, 5), 1)
            web = web_of(bench, term)
            lots = {"Y": [x for x, leaf in enumerate(leaves(term)) if leaf[1][0]]}
            self.assertEqual(number_of(machine, term), number_fitting(saying, web, "X", lots))

    def test_joined_machines(self):
        chance = seeded(923)
        for _ in range(50):
            bench = chance.choice(list(NAMED.values()))
            one = chance_machine(chance, bench, 2, chance.randint(1, 3))
            two = chance_machine(chance, bench, 2, chance.randint(1, 3))
            term = chance_term(chance, bench, chance.randint(1, 40), 1)
            inside, outside = chance.randint(-9, 9), chance.randint(-9, 9)
            numbers = [
                number_of(machine, term, inside=inside, outside=outside)
                for machine in (one, two, one | two, one & two, ~one)
            ]
            self.assertEqual(numbers[0] + numbers[1], numbers[2] + numbers[3])
            self.assertEqual(numbers[0] + numbers[4], (inside + outside) ** size_of(term))

    def test_great_terms(self):
        apart = machine_of(("not", ("to", "X", "X")), TREES)
        for leafs in (2, 50, 199):
            term = hung(LEAF, LEAF, times=leafs)
            self.assertEqual(number_of(apart, term), 2 ** leafs + 1)
            self.assertEqual(number_of(apart, term, inside=9, outside=9), 9 ** (leafs + 1) * (2 ** leafs + 1))
            self.assertEqual(number_of(apart, term, inside=-1, outside=3), 3 * 2 ** leafs - 3 ** leafs)
        chain = LEAF
        for _ in range(199):
            chain = (0, LEAF, chain)
        one, two = 1, 2
        for _ in range(199):
            one, two = two, one + two
        self.assertEqual(number_of(apart, chain), two)
        chance = seeded(924)
        for bench in NAMED.values():
            term = chance_term(chance, bench, 200, 1)
            odd = machine_of(("count", "X", 1, 0, 2), bench, names=["Y", "X"])
            self.assertEqual(number_of(odd, term), 2 ** 199)
            self.assertEqual(sum(number_row(odd, term, inside=7, outside=-9)), 2 ** 200)

    def test_own_states(self):
        machine = Machine(TREES, 1, ((1, 2),), (((0, 0, 0), (0, 1, 1), (0, 2, 2)),), (1, 2))
        self.assertEqual(number_row(machine, LEAF), (0, 1, 1))
        self.assertEqual(number_row(machine, (0, LEAF, LEAF), inside=2), (0, 3, 6))
        self.assertEqual(number_of(machine, (0, LEAF, LEAF)), 4)

    def test_starts_and_joins(self):
        for term in list(all_terms(WIDE, 2)):
            machine = chance_machine(seeded(925), WIDE, 1, 5)
            self.assertEqual(number_row(machine, term, inside=-3), row_by_hand(machine, term, -3, 1))

    def test_refusals_in_their_order(self):
        chance = seeded(926)
        for call in (number_row, number_of):
            with self.assertRaises(OtherTracks):
                call(chance_machine(chance, TREES, 0, 2), "no term", inside=99)
            machine = chance_machine(chance, TREES, 2, 2)
            for term, path in ((LEAF, ()), ((0, (0, (1,)), (0, (1, 1))), (1,)), (None, ()), ((1, LEAF, LEAF), ())):
                with self.assertRaises(BadTerm) as caught:
                    call(machine, term, inside=99, outside=99)
                self.assertEqual(caught.exception.path, path)
            for wrong in (10, -10, True, None, "1"):
                with self.assertRaises(BadNumber) as caught:
                    call(machine, (0, (1,)), inside=wrong, outside=99)
                self.assertEqual(caught.exception.which, "inside")
                with self.assertRaises(BadNumber) as caught:
                    call(machine, (0, (1,)), outside=wrong)
                self.assertEqual(caught.exception.which, "outside")


def leaves(term):
    return [term] if len(term) == 2 else leaves(term[1]) + leaves(term[2])


class RestsTest(unittest.TestCase):
    def test_against_rows_without(self):
        chance = seeded(927)
        great = 0
        lengths = set()
        for _ in range(100):
            bench = chance.choice(list(NAMED.values()) + [WIDE])
            machine = chance_machine(chance, bench, chance.randint(1, 2), chance.randint(1, 4))
            d = chance.randint(2, 6)
            try:
                rests = rests_of(machine, d)
            except TooGreat as error:
                self.assertEqual(error.step, "rows")
                with self.assertRaises(TooGreat):
                    rows_without(machine, machine.many - 1, 0, d)
                with self.assertRaises(TooGreat):
                    rest_term(machine, d - 1, d)
                great += 1
                continue
            lengths.add(len(rests))
            terms = list(small_terms(bench, 4 if len(bench) == 1 and machine.many == 1 else 2, machine.many - 1))
            met = {}
            for term in terms:
                met.setdefault(number_of(machine, term) % d, size_of(term))
            self.assertLessEqual(set(met), set(rests))
            for rest in range(d):
                term = rest_term(machine, rest, d)
                self.assertIs(term is None, rest not in rests)
                if term is None:
                    continue
                answers = rows_without(machine, machine.many - 1, rest, d)
                self.assertTrue(answers.answers(term))
                if size_of(term) < 12:
                    self.assertEqual(number_of(machine, term) % d, rest)
                if rest in met:
                    self.assertEqual(size_of(term), met[rest])
                else:
                    self.assertGreater(size_of(term), max(map(size_of, terms)))
                self.assertIs(always(answers), rests == (rest,))
        self.assertGreater(great, 0)
        self.assertTrue({1, 2, 3} <= lengths)

    def test_known_rests(self):
        apart = machine_of(("not", ("to", "X", "X")), TREES)
        self.assertEqual(rests_of(apart, 2), (0, 1))
        self.assertEqual(size_of(rest_term(apart, 0, 2)), 1)
        self.assertEqual(size_of(rest_term(apart, 1, 2)), 2)
        whole = machine_of(("in", "every", "every"), TREES, names=["X"])
        self.assertEqual([rests_of(whole, d) for d in range(2, 7)], [(0,), (1, 2), (0, 2), (1, 2, 3, 4), (2, 4)])
        self.assertIsNone(rest_term(whole, 0, 5))
        self.assertEqual(size_of(rest_term(whole, 3, 5)), 3)

    def test_refusals_in_their_order(self):
        chance = seeded(928)
        bare = chance_machine(chance, TREES, 0, 2)
        great = machine_of(("arrows", "X", "X", 3, 2, 4), TREES)
        with self.assertRaises(OtherTracks):
            rests_of(bare, 99)
        with self.assertRaises(OtherTracks):
            rest_term(bare, 99, 99)
        for d in (1, 7, 0, True, None):
            with self.assertRaises(BadNumber) as caught:
                rests_of(great, d)
            self.assertEqual(caught.exception.which, "d")
            with self.assertRaises(BadNumber) as caught:
                rest_term(great, 99, d)
            self.assertEqual(caught.exception.which, "d")
        for rest in (5, -1, True, None):
            with self.assertRaises(BadNumber) as caught:
                rest_term(great, rest, 5)
            self.assertEqual(caught.exception.which, "rest")
        for call in (lambda: rests_of(great, 5), lambda: rest_term(great, 0, 5)):
            with self.assertRaises(LotError) as caught:
                call()
            self.assertEqual(caught.exception.step, "rows")


class BenchesTest(unittest.TestCase):
    def test_equal_webs_have_equal_numbers(self):
        star = hung(LEAF, LEAF, times=3)
        joined = (1, LEAF, (0, (0, LEAF, LEAF), LEAF))
        narrow = (0, (0, (0, LEAF, LEAF), LEAF), LEAF)
        row = (0, LEAF, (0, LEAF, (0, LEAF, LEAF)))
        sayings = [("not", ("to", "X", "X")), ("arrows", "X", "every", 1, 2, 1), ("count", "X", 2, 3, 1)]
        for saying, (inside, outside) in product(sayings, ((1, 1), (-2, 3), (9, 0))):
            for pairs in (
                ((Bench.boughs(), star), (Bench.cotrees(), joined)), ((TREES, row), (Bench.narrow_rows(), narrow)),
            ):
                numbers = {
                    number_of(machine_of(saying, bench), term, inside=inside, outside=outside) for bench, term in pairs
                }
                self.assertEqual(len(numbers), 1)


if __name__ == "__main__":
    unittest.main()
