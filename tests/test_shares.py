import unittest
from fractions import Fraction
from math import gcd

from lotsayings.benches import Bench
from lotsayings.compiler import machine_of
from lotsayings.errors import BadNumber
from lotsayings.founds import useful
from lotsayings.leasts import least
from lotsayings.numbers import number_of
from lotsayings.prices import Prices
from lotsayings.shares import Shares
from lotsayings.terms import bare, check_term, size_of, tracks_of
from tests.helpers import BENCHES, chance_machine, chance_term, counting_machine, refused, seeded, small_terms
from tests.test_prices import gains_by_size, sparse_machine

TREES = Bench.trees()
NAMES = ("highest", "lowest", "over", "under", "loop_high", "loop_low", "fixed")


class SharesTest(unittest.TestCase):
    def check_fraction(self, pair):
        self.assertIsInstance(pair, tuple)
        self.assertEqual((gcd(*pair), pair[1] >= 1), (1, True))
        return Fraction(*pair)

    def check_loop(self, whole, track, loop, share):
        context, state = loop
        check_term(whole.bench, context, whole.many, hole=True)
        self.assertIn(state, useful(whole))
        self.assertEqual(whole.state_in(context, state), state)
        self.assertEqual(Fraction(len(places_of(context, track)), size_of(context)), share)

    def check(self, machine, track):
        told = Shares(machine, track)
        whole = least(machine)
        self.assertEqual((told.machine, told.track), (whole, track))
        most = 1 << max(0, len(useful(whole)) - 1)
        if Prices(machine, [0] * machine.many + [1]).bounded:
            self.assertEqual([getattr(told, name) for name in NAMES], [None] * 7)
            return None
        high, low, over, under = [self.check_fraction(getattr(told, name)) for name in NAMES[:4]]
        self.check_loop(whole, track, told.loop_high, high)
        self.check_loop(whole, track, told.loop_low, low)
        for sign, share, rest in ((1, high, over), (-1, low, under)):
            form = [0] * (machine.many + 1)
            form[track] += sign * share.denominator
            form[-1] -= sign * share.numerator
            rows = gains_by_size(whole, form, most + 6)
            met = [row[state] for row in rows for state in whole.accepted if state in row]
            # No fitting term has more, and some term without a state twice on a way has just so much.
            self.assertEqual(Fraction(max(met) * sign, share.denominator), rest)
        if high == low and over == under:
            self.assertEqual(told.fixed, (told.highest, told.over))
        else:
            self.assertIsNone(told.fixed)
        return high, low

    def test_chance_machines(self):
        chance = seeded(1231)
        found = set()
        for turn in range(600):
            bench = BENCHES[turn % len(BENCHES)]
            many = chance.randint(1, 2)
            machine = sparse_machine(chance, bench, many, chance.randint(3, 7), chance.choice([0.5, 0.8, 0.9]))
            found.add(self.check(machine, chance.randrange(many)))
        self.assertIn(None, found)
        self.assertGreater(len(found), 10)
        self.assertTrue(any(pair and 0 < pair[1] < pair[0] < 1 for pair in found))

    def test_fixed(self):
        low = ("and", ("in", "x", "X"), ("arrows", "x", "every", 0, 3, 1))
        high = ("and", ("not", ("in", "x", "X")), ("arrows", "x", "every", 2, 3, 1))
        full = machine_of(("all", "x", ("or", low, high)), TREES)
        told = Shares(full, 0)
        self.assertEqual(told.fixed, ((1, 2), (1, 2)))
        self.assertEqual((told.highest, told.lowest, told.over, told.under), ((1, 2),) * 4)
        self.check(full, 0)
        for size in range(1, 5):
            for term in small_terms(TREES, size, 1):
                if full.answers(term):
                    self.assertEqual(2 * len(tracks_of(term)[0]), size_of(term) + 1)
                    for inside, outside in ((2, 1), (-3, 5)):
                        told_number = number_of(full, bare(term), inside=inside, outside=outside)
                        places = (size_of(term) + 1) // 2
                        rest = size_of(term) - places
                        self.assertEqual(told_number, inside ** places * outside ** rest * number_of(full, bare(term)))
        whole = machine_of(("in", "every", "X"), TREES)
        self.assertEqual(Shares(whole, 0).fixed, ((1, 1), (0, 1)))
        less = machine_of(("and", ("in", "X", "none"), ("not", ("count", "every", 1, 2, 1))), TREES)
        self.assertEqual(Shares(less, 0).fixed, ((0, 1), (0, 1)))

    def test_known_shares(self):
        apart = Shares(machine_of(("not", ("to", "X", "X")), Bench.boughs()), 0)
        self.assertEqual((apart.highest, apart.lowest, apart.over, apart.under, apart.fixed),
                         ((1, 1), (0, 1), (0, 1), (0, 1), None))
        pair = ("all", "x", ("or", ("in", "x", "X"), ("to", "x", "X")))
        near = Shares(machine_of(pair, Bench.narrow_rows()), 0)
        self.assertEqual((near.highest, near.over), ((1, 1), (0, 1)))
        six = machine_of(("count", "X", 2, 3, 1), TREES)
        told = Shares(six, 0)
        self.assertEqual((told.highest, told.over, told.lowest, told.under), ((0, 1), (2, 1), (0, 1), (2, 1)))
        self.assertEqual(told.fixed, ((0, 1), (2, 1)))

    def test_tracks_that_are_not_read(self):
        for bench in BENCHES:
            machine = machine_of(("not", ("in", "Y", "none")), bench, names=["X", "Y"])
            told = Shares(machine, 0)
            self.assertEqual((told.highest, told.lowest, told.over, told.under), ((1, 1), (0, 1), (0, 1), (0, 1)))
            self.assertEqual(Shares(machine, 1).under, (1, 1))

    def test_no_loops(self):
        small = machine_of(("and", ("in", "X", "every"), ("count", "every", 2, 3, 1)), TREES)
        self.assertEqual([getattr(Shares(small, 0), name) for name in NAMES], [None] * 7)
        self.assertEqual([getattr(Shares(small.accepting(()), 0), name) for name in NAMES], [None] * 7)

    def test_fixed_tells_numbers(self):
        chance = seeded(1232)
        checked = 0
        for turn in range(400):
            bench = BENCHES[turn % len(BENCHES)]
            machine = sparse_machine(chance, bench, 1, chance.randint(2, 4))
            fixed = Shares(machine, 0).fixed
            if fixed is None:
                continue
            share, rest = [Fraction(*pair) for pair in fixed]
            for _ in range(6):
                term = chance_term(chance, bench, chance.randint(1, 6), 0)
                if number_of(machine, term):
                    places = share * size_of(term) + rest
                    self.assertEqual(places.denominator, 1)
                    told = number_of(machine, term, inside=3, outside=-2)
                    parts = 3 ** int(places) * (-2) ** (size_of(term) - int(places))
                    self.assertEqual(told, parts * number_of(machine, term))
                    checked += 1
        self.assertGreater(checked, 20)

    def test_many_states(self):
        for bench in (TREES, Bench.cotrees()):
            machine = chance_machine(seeded(1233), bench, 2, 100)
            self.assertEqual((Shares(machine, 1).highest, Shares(machine, 1).lowest), ((1, 1), (0, 1)))
        told = Shares(counting_machine(TREES, 1, 50), 0)
        self.assertEqual((told.highest, told.over, told.under), ((1, 1), (0, 1), (0, 1)))

    def test_track(self):
        machine = chance_machine(seeded(1234), TREES, 2, 3)
        for wrong in (-1, 2, True, None, "0"):
            refused(self, BadNumber, lambda: Shares(machine, wrong), "track")
        refused(self, BadNumber, lambda: Shares(chance_machine(seeded(1235), TREES, 0, 3), 0), "track")


def places_of(context, track):
    """The places of a context in a track, the hole not counted."""
    found = []
    todo = [context]
    while todo:
        part = todo.pop()
        if part is not None and len(part) == 3:
            todo += part[1:]
        elif part is not None and part[1][track]:
            found.append(part)
    return found


if __name__ == "__main__":
    unittest.main()
