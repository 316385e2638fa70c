"""What points of several sections say together."""

import unittest

from lotsayings.backs import back
from lotsayings.benches import Bench
from lotsayings.bounds import num_bound
from lotsayings.closings import closed_everywhere, closing_saying
from lotsayings.compiler import machine_of
from lotsayings.errors import LotError, NotPicked, TooGreat, TooMany
from lotsayings.families import Family
from lotsayings.leasts import least
from lotsayings.meanings import means
from lotsayings.numbers import number_of
from lotsayings.picks import can_pick, greatest_saying, picked, picker
from lotsayings.relations import as_many
from lotsayings.rings import ring, run_in
from lotsayings.sayings import check_saying, counts_of, free_names, is_plain, put_in
from lotsayings.steps import rows_without
from lotsayings.terms import colour, hung, size_of, tracks_of, web_of
from lotsayings.texts import read_saying, written
from lotsayings.verdicts import agree
from tests.helpers import (
    all_lots, chance_cuts, chance_expression, chance_saying, chance_term, chance_web_machine, seeded, small_terms,
)

TREES = Bench.trees()
LEAF = (0, ())
CLOSED_BY_OR = (
    ("to", "every", "X"), ("in", "Y", "X"), ("not", ("to", "Y", ("-", "every", "X"))),
    ("not", ("to", "X", ("-", "every", "X"))), ("or", ("in", "X", "Y"), ("in", "Y", "X")),
    ("all", "x", ("or", ("not", ("in", "x", "X")), ("not", ("to", "Y", "x")))), ("in", "none", "X"),
    ("in", "X", ("-", "every", "Y")), ("not", ("to", "every", ("&", "X", "Y"))),
)


def backs_of(machine, names):
    """The back of a machine, None if it is refused."""
    try:
        return back(machine, names)
    except LotError:
        return None


class NumbersOfLotsTest(unittest.TestCase):
    """Points 52, 53 and 62 with numbers of lots (92, 94)."""

    def test_backs_of_number_rows(self):
        chance = seeded(1111)
        checked = 0
        for turn in range(160):
            machine = chance_web_machine(chance, 1 + turn % 2, chance_cuts(chance)[:1])
            d = chance.randint(2, 3)
            rest = chance.randrange(d)
            names = ["Y"][:machine.many - 1]
            try:
                rows = rows_without(machine, machine.many - 1, rest, d)
            except TooGreat:
                continue
            saying = backs_of(rows, names)
            if saying is None or rows.states == 1:
                continue
            self.assertTrue(is_plain(saying))
            self.assertEqual(counts_of(saying), ring(rows))
            for _ in range(3):
                term = chance_term(chance, TREES, chance.randint(1, 4), machine.many - 1)
                lots = dict(zip(names, tracks_of(term)))
                told = number_of(machine, term) % d == rest
                self.assertIs(means(saying, web_of(TREES, term), lots), told)
            checked += 1
        self.assertGreater(checked, 15)

    def test_back_compiles_to_the_number_rows(self):
        inside = ("in", "X", "Y")
        single = ("count", "X", 1, 2, 1)
        for saying, names, d in ((inside, ["Y", "X"], 2), (single, ["X"], 2), (("in", "none", "X"), ["X"], 3)):
            machine = machine_of(saying, TREES, names=names)
            for rest in range(d):
                rows = rows_without(machine, len(names) - 1, rest, d)
                told = back(rows, names[:-1])
                self.assertEqual(machine_of(told, TREES, names=names[:-1]), rows)
                for term in small_terms(TREES, 3, len(names) - 1):
                    lots = dict(zip(names, tracks_of(term)))
                    self.assertIs(means(told, web_of(TREES, term), lots), number_of(machine, term) % d == rest)

    def test_rings_of_numbers(self):
        chance = seeded(1112)
        checked = 0
        for _ in range(60):
            machine = chance_web_machine(chance, chance.randint(1, 2), chance_cuts(chance))
            m = chance.randint(2, 6)
            last = machine.many - 1
            try:
                rows = [rows_without(machine, last, rest, m) for rest in range(m)]
            except TooGreat:
                continue
            bound = num_bound(m, ring(machine), least(machine).states)
            for row in rows:
                self.assertEqual(bound % ring(row), 0)
            # The rests of the numbers come again in steps of the bound when a tree is hung again and again.
            t = chance_term(chance, TREES, 2, last)
            u = chance_term(chance, TREES, 1, last)
            start = max(run_in(row) for row in rows)
            if start + 2 * bound > 150:
                continue
            rests = [number_of(machine, hung(t, u, times=start + n)) % m for n in range(2 * bound)]
            self.assertEqual(rests[:bound], rests[bound:])
            checked += 1
        self.assertGreater(checked, 20)


class PicksTest(unittest.TestCase):
    """Points 80 to 83, with backs and with numbers of lots."""

    def test_backs_of_pickers(self):
        chance = seeded(1113)
        checked = 0
        for turn in range(400):
            machine = chance_web_machine(chance, 1 + turn % 2, chance_cuts(chance)[:1])
            try:
                found = picker(machine)
            except (NotPicked, TooGreat):
                continue
            self.assertEqual(ring(machine) % ring(found), 0)
            names = ["Y", "X"][2 - machine.many:]
            saying = backs_of(found, names)
            if saying is None or found.states < 2:
                continue
            self.assertTrue(is_plain(saying))
            self.assertEqual(ring(machine) % counts_of(saying), 0)
            for term in [chance_term(chance, TREES, chance.randint(1, 3), machine.many - 1) for _ in range(2)]:
                lot = picked(machine, term)
                told = dict(zip(names, tracks_of(term)))
                fits = [x for x in all_lots(size_of(term)) if means(saying, web_of(TREES, term), {**told, "X": x})]
                self.assertEqual(fits, [] if lot is None else [lot])
            checked += 1
        self.assertGreater(checked, 10)

    def test_as_many_fit(self):
        chance = seeded(1114)
        kinds = set()
        for turn in range(150):
            machine = chance_web_machine(chance, 1 + turn % 2, chance_cuts(chance)[:1])
            try:
                found = picker(machine)
                term = as_many(machine, found)
                again = picker(found)
            except (NotPicked, TooGreat, TooMany):
                continue
            kinds.add(term is None)
            self.assertIs(term is None, agree(machine, found))
            if term is not None:
                self.assertGreater(number_of(machine, term), number_of(found, term))
            self.assertIsNone(as_many(found, again))
        self.assertEqual(kinds, {True, False})

    def test_closed_by_or(self):
        for saying in CLOSED_BY_OR:
            self.assertTrue(closed_everywhere(saying, "X", TREES, "or"))
            names = [name for name in free_names(saying) if name != "X"] + ["X"]
            machine = machine_of(saying, TREES, names=names)
            self.assertTrue(can_pick(machine))
            greatest = machine_of(greatest_saying(saying, "X"), TREES, names=names)
            chosen = picker(machine)
            self.assertIs(as_many(machine, chosen) is None, agree(machine, chosen))
            self.assertIsNone(as_many(greatest, chosen))
            for term in small_terms(TREES, 3, len(names) - 1):
                family = Family.of(machine, term)
                union = tuple(sorted(set().union(*family.lots)))
                self.assertEqual(Family.of(greatest, term).lots, (union,) if len(family) else ())
                self.assertEqual(Family.of(chosen, term).lots, () if not family.lots else (picked(machine, term),))
                if family.lots:
                    self.assertEqual(family.tops(), (union,))


class ClosingSayingsTest(unittest.TestCase):
    """Points 13 and 8 with the closing sayings."""

    def test_sayings_that_are_read_again(self):
        chance = seeded(1115)
        for _ in range(60):
            saying = chance_saying(chance, ["X", "Z", "x", "Z0"], chance.randint(0, 3))
            name = chance.choice(["X", "x", "Z", "Y"])
            word = chance.choice(Family.WORDS)
            made = closing_saying(saying, name, word)
            self.assertIsNone(check_saying(made))
            self.assertEqual(read_saying(written(made)), made)
            self.assertEqual(free_names(made), tuple(other for other in free_names(saying) if other != name))

    def test_putting_in(self):
        chance = seeded(1116)
        for turn in range(40):
            saying = chance_saying(chance, ["X", "Y"], turn % 2)
            word = chance.choice(Family.WORDS)
            made = closing_saying(saying, "X", word)
            expression = chance_expression(chance, ["Z", "Y", "Z0"])
            whole = put_in(made, "Y", expression)
            for term in small_terms(TREES, 2, 3):
                web = web_of(TREES, term)
                lots = dict(zip(("Y", "Z", "Z0"), tracks_of(term)))
                inner = put_in(saying, "Y", expression)
                self.assertIs(means(whole, web, lots), means(closing_saying(inner, "X", word), web, lots))

    def test_names_replaced(self):
        saying = ("and", ("count", ("&", "X", "Y"), 1, 1, 1), ("in", "X", "V"))
        other = ("and", ("count", ("&", "C", "B"), 1, 1, 1), ("in", "C", "A"))
        for word in ("or", "and"):
            one = machine_of(closing_saying(saying, "X", word), TREES, names=["Y", "V"])
            two = machine_of(closing_saying(other, "C", word), TREES, names=["B", "A"])
            self.assertEqual(one, two)
        term = colour((0, LEAF, LEAF), [(1,), (0,)])
        made = closing_saying(saying, "X", "or")
        self.assertIs(means(made, web_of(TREES, term), {"Y": (1,), "V": (0,)}), True)


if __name__ == "__main__":
    unittest.main()
