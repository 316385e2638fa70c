"""The examples of the document, and what its points say of several modules together."""

import unittest

from lotsayings.benches import Bench
from lotsayings.errors import BadText, LotError
from lotsayings.founds import first_terms
from lotsayings.leasts import least
from lotsayings.machines import Machine
from lotsayings.meanings import fitting
from lotsayings.sayings import put_in
from lotsayings.steps import rows_without
from lotsayings.terms import hung, web_of
from lotsayings.texts import read_saying, written
from lotsayings.webs import Web


class ExamplesTest(unittest.TestCase):
    def test_section_one(self):
        self.assertEqual(web_of(Bench.trees(), hung((0, ()), (0, ()), times=2)).arrows, ((0, 1), (0, 2)))
        found = fitting(("not", ("to", "X", "X")), Web(3, [(0, 1), (0, 2)]), "X", {})
        self.assertEqual(found, [(), (0,), (1,), (1, 2), (2,)])
        made = put_in(("some", "X", ("in", "X", "Y")), "Y", ("&", "X", "every"))
        self.assertEqual(written(made), "some Z in Z & X every")
        with self.assertRaises(BadText) as caught:
            read_saying("count X 1 0 1")
        self.assertEqual(caught.exception.at, 4)
        self.assertIsInstance(caught.exception, LotError)
        self.assertEqual(written(("some", "X", ("in", ("&", "X", "Y"), "none"))), "some X in & X Y none")

    def test_section_two(self):
        machine = Machine(Bench.trees(), 1, ((0, 1),), (((0, 0, 2), (1, 2, 2), (2, 2, 2)),), (0, 1))
        self.assertIs(machine.answers((0, (0, (1,)), (0, (1,)))), False)
        self.assertEqual(rows_without(machine, 0, 1, 2).accepted, (1, 2))
        self.assertEqual(first_terms(machine)[2], (0, (0, (1,)), (0, (1,))))
        self.assertEqual(least(machine), machine)


if __name__ == "__main__":
    unittest.main()
