import unittest
from fractions import Fraction
from math import gcd
from unittest.mock import patch

from lotsayings.benches import Bench
from lotsayings.bounds import num_bound
from lotsayings.compiler import machine_of
from lotsayings.errors import BadNumber, BadTerm, OtherTracks, TooGreat
from lotsayings.fractions import determinant, rank_of
from lotsayings.founds import useful
from lotsayings.hanging import is_web_machine
from lotsayings.leasts import least
from lotsayings.machines import Machine
from lotsayings.numbers import number_of
from lotsayings.ranks import Rank, turns_of
from lotsayings.rings import ring
from lotsayings.steps import rows_without
from lotsayings.terms import check_term, put
from tests.helpers import (
    BENCHES, chance_context, chance_cuts, chance_machine, chance_term, chance_web_machine, counting_machine, refused,
    seeded, small_terms,
)

TREES = Bench.trees()
LEAF = (0, ())


class RankTest(unittest.TestCase):
    def check_table(self, machine):
        told = Rank(machine)
        many = machine.many - 1
        self.assertIs(told.machine, machine)
        self.assertEqual((len(told.contexts), len(told.terms), len(told.table)), (told.rank,) * 3)
        for context, row in zip(told.contexts, told.table):
            check_term(machine.bench, context, many, hole=True)
            self.assertEqual(row, tuple(number_of(machine, put(context, term)) for term in told.terms))
        self.assertNotEqual(determinant(told.table), 0)
        self.assertLessEqual(told.rank, len(useful(least(machine))))
        return told

    def test_tables(self):
        chance = seeded(971)
        ranks = set()
        for turn in range(60):
            bench = BENCHES[turn % len(BENCHES)]
            machine = chance_machine(chance, bench, chance.randint(1, 2), chance.randint(1, 5))
            if turn % 3 == 0:
                machine = machine & chance_machine(chance, bench, machine.many, 2)
            told = self.check_table(machine)
            ranks.add(told.rank)
            many = machine.many - 1
            terms = [chance_term(chance, bench, chance.randint(1, 7), many) for _ in range(8)] + list(told.terms)
            around = [chance_context(chance, bench, chance.randint(0, 6), many) for _ in range(8)]
            around += list(told.contexts)
            whole = [[number_of(machine, put(context, term)) for term in terms] for context in around]
            self.assertEqual(rank_of(whole), told.rank)
            more = [row + [whole[0][0]] for row in map(list, told.table)]
            for row, context in zip(more, told.contexts):
                row[-1] = number_of(machine, put(context, terms[0]))
            more.append([number_of(machine, put(around[0], term)) for term in told.terms + (terms[0],)])
            self.assertEqual(determinant(more), 0)
            self.assertEqual(told.rank == 0, not any(map(any, whole)))
        self.assertTrue({0, 1, 2, 3, 4} <= ranks, ranks)

    def test_told_by(self):
        chance = seeded(972)
        for turn in range(40):
            bench = BENCHES[turn % len(BENCHES)]
            machine = chance_machine(chance, bench, chance.randint(1, 2), chance.randint(1, 4))
            told = Rank(machine)
            many = machine.many - 1
            term = chance_term(chance, bench, chance.randint(1, 9), many)
            share = told.told_by([number_of(machine, put(context, term)) for context in told.contexts])
            self.assertEqual(len(share), told.rank)
            for _ in range(6):
                context = chance_context(chance, bench, chance.randint(0, 8), many)
                parts = [
                    Fraction(*pair) * number_of(machine, put(context, other))
                    for pair, other in zip(share, told.terms)
                ]
                self.assertEqual(sum(parts), number_of(machine, put(context, term)))

    def test_told_by_any_integers(self):
        told = Rank(machine_of(("not", ("to", "X", "X")), TREES))
        self.assertEqual(told.rank, 2)
        rows = (10 ** 59, -7)
        share = told.told_by(rows)
        for number, row in zip(rows, told.table):
            self.assertEqual(sum(Fraction(*pair) * entry for pair, entry in zip(share, row)), number)
        for pair in share:
            self.assertEqual((gcd(*pair), pair[1] >= 1), (1, True))
        self.assertEqual(told.told_by([0, 0]), ((0, 1), (0, 1)))

    def test_small_ranks(self):
        for bench in BENCHES:
            whole = machine_of(("in", "none", "X"), bench)
            self.assertEqual((Rank(whole).rank, Rank(~whole).rank), (1, 0))
            self.assertEqual((Rank(~whole).contexts, Rank(~whole).table, Rank(~whole).told_by(())), ((), (), ()))
            self.assertEqual(Rank(machine_of(("count", "X", 0, 1, 1), bench)).rank, 1)
            self.assertEqual(Rank(machine_of(("count", "X", 1, 2, 1), bench)).rank, 2)
            self.assertEqual(Rank(machine_of(("count", "X", 2, 3, 1), bench)).rank, 3)
            self.assertEqual(Rank(counting_machine(bench, 1, 3)).rank, 3)
            self.assertEqual(Rank(counting_machine(bench, 1, 2)).rank, 1)

    def test_apart_machines(self):
        chance = seeded(973)
        for _ in range(30):
            bench = chance.choice(BENCHES)
            one = chance_machine(chance, bench, 1, chance.randint(1, 4))
            two = chance_machine(chance, bench, 1, chance.randint(1, 4)) & ~one
            self.assertLessEqual(Rank(one | two).rank, Rank(one).rank + Rank(two).rank)

    def test_many_states(self):
        for bench in BENCHES:
            machine = chance_machine(seeded(974), bench, 1, 40)
            self.assertEqual(Rank(machine).rank, 40)
        self.assertEqual(Rank(counting_machine(TREES, 1, 60)).rank, 59)
        self.assertEqual(Rank(counting_machine(TREES, 1, 75)).rank, 75)

    def test_mixed_rows_that_show_nothing(self):
        chance = seeded(979)
        machines = [chance_machine(chance, bench, 1, states) for bench in BENCHES for states in (3, 5, 7)]
        machines += [one & counting_machine(one.bench, 1, 3) for one in machines]
        ranks = [Rank(machine).rank for machine in machines]
        with patch("lotsayings.spans.mixed", lambda rows: [0] * len(rows[0])):
            self.assertEqual([Rank(machine).rank for machine in machines], ranks)

    def test_rings(self):
        chance = seeded(975)
        checked = 0
        for _ in range(30):
            machine = chance_web_machine(chance, chance.randint(1, 2), chance_cuts(chance))
            self.assertTrue(is_web_machine(machine))
            height = Rank(machine).rank
            for p in (2, 3, 5):
                for rest in range(p):
                    try:
                        rows = rows_without(machine, machine.many - 1, rest, p)
                    except TooGreat:
                        continue
                    if height:
                        self.assertEqual(num_bound(p, ring(machine), height) % ring(rows), 0)
                        checked += 1
        self.assertGreater(checked, 100)

    def test_refusals(self):
        chance = seeded(976)
        refused(self, OtherTracks, lambda: Rank(chance_machine(chance, TREES, 0, 2)))
        told = Rank(machine_of(("not", ("to", "X", "X")), TREES))
        for wrong in ((1,), (1, 2, 3), (True, 1), (1, "2"), None, 7, {}):
            refused(self, BadNumber, lambda: told.told_by(wrong), "rows")
        refused(self, BadNumber, lambda: Rank(machine_of(("in", "every", "none"), TREES, names="X")).told_by([1]), "rows")


class TurnsTest(unittest.TestCase):
    def numbers_along(self, machine, context, term, length, around):
        found = []
        for _ in range(length):
            found.append([number_of(machine, put(outer, term)) for outer in around])
            term = put(context, term)
        return found

    def test_turns(self):
        chance = seeded(977)
        lengths = set()
        for turn in range(60):
            bench = BENCHES[turn % len(BENCHES)]
            machine = chance_machine(chance, bench, chance.randint(1, 2), chance.randint(1, 4))
            many = machine.many - 1
            context = chance_context(chance, bench, chance.randint(0, 3), many)
            term = chance_term(chance, bench, chance.randint(1, 3), many)
            turns = turns_of(machine, context, term)
            told = Rank(machine)
            self.assertLessEqual(len(turns) - 1, told.rank)
            self.assertGreater(turns[-1], 0)
            self.assertEqual(gcd(*turns), 1)
            around = [None] + list(told.contexts)
            around += [chance_context(chance, bench, chance.randint(1, 5), many) for _ in range(4)]
            length = len(turns)
            lengths.add(length)
            rows = self.numbers_along(machine, context, term, length + 3, around)
            for start in range(4):
                for at in range(len(around)):
                    self.assertEqual(sum(x * rows[start + i][at] for i, x in enumerate(turns)), 0)
            # Shorter ones would be a combination of the rows in the told contexts.
            self.assertEqual(rank_of(rows[:length - 1]), length - 1)
        self.assertTrue({1, 2, 3, 4} <= lengths, lengths)

    def test_known_turns(self):
        apart = machine_of(("not", ("to", "X", "X")), TREES)
        hang = (0, None, LEAF)
        self.assertEqual(turns_of(apart, hang, LEAF), (2, -3, 1))
        self.assertEqual(turns_of(apart, (0, LEAF, None), LEAF), (-1, -1, 1))
        self.assertEqual(turns_of(apart, None, LEAF), (-1, 1))
        self.assertEqual(turns_of(apart.accepting(()), hang, LEAF), (1,))
        whole = machine_of(("in", "none", "X"), TREES)
        self.assertEqual(turns_of(whole, (0, (0, LEAF, None), LEAF), LEAF), (-4, 1))
        one = machine_of(("count", "X", 1, 2, 1), TREES)
        self.assertEqual(turns_of(one, hang, LEAF), (1, -2, 1))

    def test_none_for_a_term_without_lots(self):
        child = machine_of(("and", ("count", "X", 1, 2, 1), ("to", "every", "X")), TREES)
        self.assertEqual(turns_of(child, None, LEAF), (-1, 1))
        pair = machine_of(("and", ("in", "Y", "none"), ("in", "X", "none")), TREES, names=["Y", "X"])
        self.assertEqual(turns_of(pair, (0, None, (0, (0,))), (0, (1,))), (1,))
        self.assertEqual(turns_of(pair, (0, None, (0, (1,))), (0, (0,))), (0, 1))

    def test_great_context(self):
        one = machine_of(("count", "X", 1, 2, 1), TREES)
        context = None
        for _ in range(199):
            context = (0, LEAF, context)
        self.assertEqual(turns_of(one, context, LEAF), (1, -2, 1))

    def test_own_states(self):
        machine = Machine(TREES, 1, ((2, 3),), (((0,) * 4,) * 4,), (0, 2, 3))
        self.assertEqual(turns_of(machine, (0, None, LEAF), LEAF), (-2, 1))

    def test_refusals_in_their_order(self):
        chance = seeded(978)
        refused(self, OtherTracks, lambda: turns_of(chance_machine(chance, TREES, 0, 2), "no", "no"))
        machine = chance_machine(chance, TREES, 1, 2)
        for wrong, path in ((LEAF, ()), ((0, None, None), ()), ((0, None, (0, (1,))), (1,)), ("no", ())):
            refused(self, BadTerm, lambda: turns_of(machine, wrong, "no"), path)
        for wrong, path in ((None, ()), ((0, LEAF, (1, ())), (1,)), ("no", ())):
            refused(self, BadTerm, lambda: turns_of(machine, (0, None, LEAF), wrong), path)


if __name__ == "__main__":
    unittest.main()
