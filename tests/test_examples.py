"""The examples of the document, and what its points say of several modules together."""

import unittest

from lotsayings.backs import back
from lotsayings.benches import Bench
from lotsayings.bests import best, ends
from lotsayings.bounds import num_bound, order_of
from lotsayings.closings import breaking, broken, closed_everywhere
from lotsayings.compiler import machine_of
from lotsayings.errors import BadText, LotError, TooGreat
from lotsayings.families import Family
from lotsayings.forms import tree_row, tree_term
from lotsayings.founds import first_terms
from lotsayings.gathers import Gather
from lotsayings.greedy import exchanges, greedy
from lotsayings.growth import Growth
from lotsayings.hanging import joins_alike
from lotsayings.leasts import least
from lotsayings.lots import lot_by
from lotsayings.machines import Machine
from lotsayings.marks import MarkTable
from lotsayings.meanings import fitting, means
from lotsayings.numbers import number_of, number_row
from lotsayings.partings import inseparable, is_parted, least_parting, parting
from lotsayings.picks import can_pick, picked, picker
from lotsayings.prices import Prices, at_most
from lotsayings.pumped import map_of, pumped_size, pumped_state
from lotsayings.ranks import Rank, turns_of
from lotsayings.relations import Relations
from lotsayings.rings import counts_told, ring, run_in
from lotsayings.sayings import free_names, put_in
from lotsayings.shares import Shares
from lotsayings.sizes import Sizes
from lotsayings.steps import rows_without
from lotsayings.tables import LeastSizes, least_size
from lotsayings.terms import colour, hung, size_of, web_of
from lotsayings.texts import read_saying, written
from lotsayings.unmoved import equal_children, is_unmoved, unmoved_lots
from lotsayings.verdicts import always, parting_lots
from lotsayings.webs import Web
from tests.helpers import chance_expression, chance_saying, seeded

TREES = Bench.trees()


class ExamplesTest(unittest.TestCase):
    def test_section_one(self):
        self.assertEqual(web_of(Bench.trees(), hung((0, ()), (0, ()), times=2)).arrows, ((0, 1), (0, 2)))
        found = fitting(("not", ("to", "X", "X")), Web(3, [(0, 1), (0, 2)]), "X", {})
        self.assertEqual(found, [(), (0,), (1,), (1, 2), (2,)])
        made = put_in(("some", "X", ("in", "X", "Y")), "Y", ("&", "X", "every"))
        self.assertEqual(written(made), "some Z in Z & X every")
        with self.assertRaises(BadText) as caught:
            read_saying("count X 1 0 1")
        self.assertEqual(caught.exception.at, 4)
        self.assertIsInstance(caught.exception, LotError)
        self.assertEqual(written(("some", "X", ("in", ("&", "X", "Y"), "none"))), "some X in & X Y none")

    def test_section_two(self):
        machine = Machine(Bench.trees(), 1, ((0, 1),), (((0, 0, 2), (1, 2, 2), (2, 2, 2)),), (0, 1))
        self.assertIs(machine.answers((0, (0, (1,)), (0, (1,)))), False)
        self.assertEqual(rows_without(machine, 0, 1, 2).accepted, (1, 2))
        self.assertEqual(first_terms(machine)[2], (0, (0, (1,)), (0, (1,))))
        self.assertEqual(least(machine), machine)

    def test_section_three(self):
        apart = machine_of(("not", ("to", "X", "X")), TREES)
        self.assertEqual(apart.leaves, ((0, 1),))
        self.assertEqual(apart.rows, (((0, 0, 2), (1, 2, 2), (2, 2, 2)),))
        self.assertEqual(apart.accepted, (0, 1))
        found = parting_lots(("to", "every", "X"), ("not", ("in", "X", "none")), TREES)
        self.assertEqual((found[0], found[1].size, found[1].arrows, found[2]), ((0, (1,)), 1, (), {"X": (0,)}))
        inner = ("and", ("in", "every", "X"), ("not", ("to", "X", ("-", "every", "X"))))
        still = machine_of(("some", "X", inner), Bench.cotrees())
        self.assertEqual((always(still), still.states), (True, 1))

    def test_section_four(self):
        row = tree_row((0, (0, (0, (1,)), (0, (1,))), (0, (0,))))
        self.assertEqual(row, ((2, 1), (0, 0), (0, 1)))
        self.assertEqual(tree_term(row, 1), (0, (0, (0, (1,)), (0, (0,))), (0, (1,))))
        odd = machine_of(("count", "every", 1, 0, 2), TREES)
        last = Machine(TREES, 0, ((0,),), (((1, 0), (1, 0)),), (1,))
        self.assertEqual((odd.rows, run_in(odd), ring(odd)), ((((1, 0), (0, 1)),), 0, 2))
        self.assertEqual((counts_told(odd, 4), counts_told(odd, 3)), (True, False))
        self.assertEqual((joins_alike(odd), joins_alike(last)), (None, (0, 0, 1)))
        entries = []
        for first, second, state in ((0, 0, "-"), (0, 1, "&"), (1, 0, "&"), (1, 1, "&")):
            entries.append(
                f"and in z & every {state} every Z0 and arrows z - every Z0 {first} 1 1 "
                f"arrows z & every Z0 {second} 1 1"
            )
        told = f"some Z0 and all z or {' or '.join(entries[:3])} {entries[3]} "
        told += "some z and not to every z in z | none & every Z0"
        self.assertEqual(written(back(machine_of(("to", "every", "every"), TREES), ())), told)

    def test_section_five(self):
        self.assertEqual([num_bound(3, 1, 3), num_bound(4, 2, 3), num_bound(6, 1, 2), order_of(2, 14)], [6, 8, 6, 3])
        apart = machine_of(("not", ("to", "X", "X")), TREES)
        self.assertEqual((apart.states, ring(apart)), (3, 1))
        for rest in range(3):
            self.assertEqual(6 % ring(rows_without(apart, 0, rest, 3)), 0)
        even = machine_of(("count", "every", 0, 0, 2), TREES)
        self.assertEqual(even.state((0, ())), 0)
        self.assertEqual(list(Gather(even, 1)), [(0,), (0, 1), (1,)])
        self.assertEqual(list(Gather(even, 2)), [(0,), (1,)])
        self.assertEqual(Gather(even, 1).some_of((0,), (0,), 0), (0, 1))
        self.assertIs(is_parted(even, ~even, 3), False)
        self.assertEqual((inseparable(even, ~even, 3), least_parting(even, ~even)), ((0, 1), 2))
        self.assertEqual(parting(even, ~even, 2), even)

    def test_section_six(self):
        star = hung((0, ()), (0, ()), times=2)
        self.assertEqual(equal_children(star), [(1, 2)])
        self.assertIs(is_unmoved(star, [1]), False)
        self.assertEqual(unmoved_lots(star), [(), (0,), (0, 1, 2), (1, 2)])
        below = machine_of(("and", ("count", "X", 1, 2, 1), ("to", "every", "X")), TREES)
        marks = [((0, 1), (0, 1)), ((0, 1, 2, 3), (0, 1, 2, 3)), ((0, 1, 2, 3), (0, 1, 3))]
        self.assertEqual(list(MarkTable(below)), marks)
        self.assertEqual(MarkTable(below).mark_of(star), marks[2])
        self.assertIs(can_pick(below), False)
        single = machine_of(("count", "X", 1, 2, 1), TREES)
        row = hung((0, ()), hung((0, ()), (0, ())))
        self.assertEqual((picked(single, row), picked(single, star)), ((2,), (0,)))
        found = picker(single)
        self.assertIs(found.answers(colour(star, [(0,)])), True)
        self.assertIs(found.answers(colour(star, [(1,)])), False)

    def test_section_seven(self):
        apart = machine_of(("not", ("to", "X", "X")), TREES)
        star = (0, (0, (0, ()), (0, ())), (0, ()))
        self.assertEqual(number_row(apart, star), (4, 1, 3))
        self.assertEqual((number_of(apart, star), number_of(apart, star, inside=2)), (5, 11))
        for leaves in range(9):
            self.assertEqual(number_of(apart, hung((0, ()), (0, ()), times=leaves)), 2 ** leaves + 1)
        self.assertEqual((Rank(apart).rank, turns_of(apart, (0, None, (0, ())), (0, ()))), (2, (2, -3, 1)))
        sayings = [
            ("in", "none", "X"), ("count", "X", 1, 2, 1), ("count", "X", 0, 1, 1),
            ("or", ("count", "X", 0, 1, 1), ("in", "every", "X")),
        ]
        told = Relations(tuple(machine_of(saying, TREES) for saying in sayings))
        self.assertEqual((told.rank, told.base, told.holds((0, 0, 2, -1))), (3, ((0, 0, -2, 1),), True))
        self.assertEqual(told.row_of((0, (0, ()), (0, ()))), (4, 2, 1, 2))

    def test_section_eight(self):
        apart = machine_of(("not", ("to", "X", "X")), TREES)
        star = (0, (0, (0, ()), (0, ())), (0, ()))
        self.assertEqual((best(apart, star, (3, 2, 2)), ends(apart, star, (3, 2, 2))), (4, ((3, 4), (4, 3), (4, 3))))
        self.assertEqual(Family.of(apart, star).tops(), ((0,), (1, 2)))
        family = Family(3, [(0,), (2, 1)])
        self.assertEqual((broken(family, "or"), broken(family, "even")), (((0,), (1, 2)), None))
        self.assertEqual((greedy(family, (3, 2, 2)), exchanges(family)), ((0,), False))
        saying = ("to", "every", "X")
        self.assertIs(closed_everywhere(saying, "X", TREES, "or"), True)
        self.assertEqual(size_of(breaking(saying, "X", TREES, "and")[0]), 3)


    def test_section_nine(self):
        below = machine_of(("all", "x", ("or", ("not", ("in", "x", "X")), ("to", "x", "Y"))), TREES)
        self.assertEqual((at_most(below, 0, 1), at_most(below, 1, 0)), (0, None))
        low = ("and", ("in", "x", "X"), ("arrows", "x", "every", 0, 3, 1))
        high = ("and", ("not", ("in", "x", "X")), ("arrows", "x", "every", 2, 3, 1))
        full = machine_of(("all", "x", ("or", low, high)), TREES)
        sizes = Sizes(full)
        self.assertEqual(Shares(full, 0).fixed, ((1, 2), (1, 2)))
        self.assertEqual((sizes.start, sizes.period, sizes.members, sizes.rests, 10 ** 9 in sizes), (0, 2, (), (1,), False))
        even = Machine(TREES, 0, ((0,),), (((1, 0), (0, 1)),), (1,))
        hang = (0, None, (0, ()))
        prices = Prices(even, (-1,))
        state = pumped_state(even, None, hang, 999999999, (0, ()))
        size = pumped_size(None, hang, 999999999, (0, ()))
        self.assertEqual((map_of(even, hang), state, size), ((1, 0), 1, 1000000000))
        self.assertEqual((prices.bound, prices.prices), (-2, (-1, -2)))

    def test_section_ten(self):
        rows = Bench.narrow_rows()
        one = Growth(machine_of(("or", ("count", "X", 0, 2, 1), ("count", "X", 1, 2, 1)), rows))
        any_lot = Growth(machine_of(("in", "X", "every"), rows))
        empty = Growth(machine_of(("in", "X", "none"), rows))
        self.assertEqual((one.kind, one.links, one.greatest), ("power", 1, None))
        self.assertEqual((any_lot.kind, any_lot.links), ("double", None))
        self.assertEqual((empty.kind, empty.links, empty.greatest), ("bounded", 0, 1))
        near = ("all", "x", ("or", ("in", "x", "X"), ("or", ("to", "x", "X"), ("to", "X", "x"))))
        some = LeastSizes(machine_of(("not", ("in", "X", "none")), rows))
        machine = machine_of(near, rows)
        leaf = (0, ())
        self.assertEqual((some.bounded, some.greatest, LeastSizes(machine).bounded), (True, 1, False))
        self.assertEqual(least_size(machine, (0, (0, (0, leaf, leaf), leaf), leaf)), 2)


class BuildingsTest(unittest.TestCase):
    """Points 11, 13 and 33 for terms of several benches, or of one, that build equal coloured webs."""

    def built_alike(self, chance, size):
        """Pairs of benches and terms without tracks whose webs are the same."""
        leaf = (0, ())
        star = hung(leaf, leaf, times=size - 1)
        beside = leaf
        other = leaf
        chain = leaf
        narrow = leaf
        for _ in range(size - 2):
            beside = (0, beside, leaf) if chance.random() < 0.5 else (0, leaf, beside)
            other = (0, other, leaf)
        for _ in range(size - 1):
            chain = (0, leaf, chain)
            narrow = (0, narrow, leaf)
        yield (Bench.boughs(), star), (Bench.cotrees(), (1, leaf, beside))
        yield (TREES, chain), (Bench.narrow_rows(), narrow)
        yield (Bench.cotrees(), (1, leaf, beside)), (Bench.cotrees(), (1, leaf, other))

    def test_machines_and_meanings(self):
        chance = seeded(981)
        many = 0
        for turn in range(60):
            size = 2 + turn % 4
            saying = chance_saying(chance, ["X", "Y", "x"], chance.randint(0, 3))
            names = free_names(saying)
            for one, two in self.built_alike(chance, size):
                self.assertEqual(web_of(*one), web_of(*two))
                lots = [tuple(x for x in range(size) if chance.random() < 0.5) for _ in names]
                meant = means(saying, web_of(*one), dict(zip(names, lots)))
                for bench, term in (one, two):
                    try:
                        machine = machine_of(saying, bench)
                    except TooGreat:
                        continue
                    self.assertIs(machine.answers(colour(term, lots)), meant)
                    many += 1
        self.assertGreater(many, 200)

    def test_put_in(self):
        chance = seeded(982)
        many = 0
        for _ in range(40):
            saying = chance_saying(chance, ["X", "Y"], chance.randint(0, 2))
            expression = chance_expression(chance, ["Y", "X"])
            whole = put_in(saying, "X", expression)
            for one, two in self.built_alike(chance, 4):
                lots = {name: tuple(x for x in range(4) if chance.random() < 0.5) for name in ("X", "Y")}
                inner = {**lots, "X": lot_by(expression, 4, lots)}
                meant = means(saying, web_of(*one), inner)
                self.assertIs(means(whole, web_of(*two), lots), meant)
                for bench, term in (one, two):
                    try:
                        machine = machine_of(whole, bench, names=["X", "Y"])
                    except TooGreat:
                        continue
                    self.assertIs(machine.answers(colour(term, [lots["X"], lots["Y"]])), meant)
                    many += 1
        self.assertGreater(many, 100)


if __name__ == "__main__":
    unittest.main()
