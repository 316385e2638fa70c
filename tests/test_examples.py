"""The examples of the document, and what its points say of several modules together."""

import unittest

from lotsayings.backs import back
from lotsayings.benches import Bench
from lotsayings.compiler import machine_of
from lotsayings.errors import BadText, LotError
from lotsayings.forms import tree_row, tree_term
from lotsayings.founds import first_terms
from lotsayings.hanging import joins_alike
from lotsayings.leasts import least
from lotsayings.machines import Machine
from lotsayings.meanings import fitting
from lotsayings.rings import counts_told, ring, run_in
from lotsayings.sayings import put_in
from lotsayings.steps import rows_without
from lotsayings.terms import hung, web_of
from lotsayings.texts import read_saying, written
from lotsayings.verdicts import always, parting_lots
from lotsayings.webs import Web

TREES = Bench.trees()


class ExamplesTest(unittest.TestCase):
    def test_section_one(self):
        self.assertEqual(web_of(Bench.trees(), hung((0, ()), (0, ()), times=2)).arrows, ((0, 1), (0, 2)))
        found = fitting(("not", ("to", "X", "X")), Web(3, [(0, 1), (0, 2)]), "X", {})
        self.assertEqual(found, [(), (0,), (1,), (1, 2), (2,)])
        made = put_in(("some", "X", ("in", "X", "Y")), "Y", ("&", "X", "every"))
        self.assertEqual(written(made), "some Z in Z & X every")
        with self.assertRaises(BadText) as caught:
            read_saying("count X 1 0 1")
        self.assertEqual(caught.exception.at, 4)
        self.assertIsInstance(caught.exception, LotError)
        self.assertEqual(written(("some", "X", ("in", ("&", "X", "Y"), "none"))), "some X in & X Y none")

    def test_section_two(self):
        machine = Machine(Bench.trees(), 1, ((0, 1),), (((0, 0, 2), (1, 2, 2), (2, 2, 2)),), (0, 1))
        self.assertIs(machine.answers((0, (0, (1,)), (0, (1,)))), False)
        self.assertEqual(rows_without(machine, 0, 1, 2).accepted, (1, 2))
        self.assertEqual(first_terms(machine)[2], (0, (0, (1,)), (0, (1,))))
        self.assertEqual(least(machine), machine)

    def test_section_three(self):
        apart = machine_of(("not", ("to", "X", "X")), TREES)
        self.assertEqual(apart.leaves, ((0, 1),))
        self.assertEqual(apart.rows, (((0, 0, 2), (1, 2, 2), (2, 2, 2)),))
        self.assertEqual(apart.accepted, (0, 1))
        found = parting_lots(("to", "every", "X"), ("not", ("in", "X", "none")), TREES)
        self.assertEqual((found[0], found[1].size, found[1].arrows, found[2]), ((0, (1,)), 1, (), {"X": (0,)}))
        inner = ("and", ("in", "every", "X"), ("not", ("to", "X", ("-", "every", "X"))))
        still = machine_of(("some", "X", inner), Bench.cotrees())
        self.assertEqual((always(still), still.states), (True, 1))

    def test_section_four(self):
        row = tree_row((0, (0, (0, (1,)), (0, (1,))), (0, (0,))))
        self.assertEqual(row, ((2, 1), (0, 0), (0, 1)))
        self.assertEqual(tree_term(row, 1), (0, (0, (0, (1,)), (0, (0,))), (0, (1,))))
        odd = machine_of(("count", "every", 1, 0, 2), TREES)
        last = Machine(TREES, 0, ((0,),), (((1, 0), (1, 0)),), (1,))
        self.assertEqual((odd.rows, run_in(odd), ring(odd)), ((((1, 0), (0, 1)),), 0, 2))
        self.assertEqual((counts_told(odd, 4), counts_told(odd, 3)), (True, False))
        self.assertEqual((joins_alike(odd), joins_alike(last)), (None, (0, 0, 1)))
        entries = []
        for first, second, state in ((0, 0, "-"), (0, 1, "&"), (1, 0, "&"), (1, 1, "&")):
            entries.append(
                f"and in z & every {state} every Z0 and arrows z - every Z0 {first} 1 1 "
                f"arrows z & every Z0 {second} 1 1"
            )
        told = f"some Z0 and all z or {' or '.join(entries[:3])} {entries[3]} "
        told += "some z and not to every z in z | none & every Z0"
        self.assertEqual(written(back(machine_of(("to", "every", "every"), TREES), ())), told)


if __name__ == "__main__":
    unittest.main()
