import unittest
from unittest import mock

from lotsayings.benches import Bench
from lotsayings.compiler import machine_of
from lotsayings.errors import BadNumber, TooMany
from lotsayings.leasts import least
from lotsayings.machines import Machine
from lotsayings.sizes import LONGEST, MOST_REPEAT, Sizes, States, repeat_of
from lotsayings.terms import check_term, size_of
from lotsayings.verdicts import agree, parting_term
from tests.helpers import BENCHES, NAMED, chance_machine, counting_machine, refused, seeded, small_terms
from tests.test_prices import sparse_machine

TREES = Bench.trees()
LEAF = (0, ())
MOST = 100


def sizes_of_states(machine, most):
    """For each state the set of the sizes of its terms up to a size, by point 128."""
    found = [set() for _ in range(machine.states)]
    by_size = [[], sorted({state for row in machine.leaves for state in row})]
    for size in range(2, most + 1):
        states = set()
        for less in range(1, size):
            for p in by_size[less]:
                for q in by_size[size - less]:
                    states.update(table[p][q] for table in machine.rows)
        by_size.append(sorted(states))
    for size, states in enumerate(by_size):
        for state in states:
            found[state].add(size)
    return found


def told_by_hand(sizes, most):
    """The least period for which some start does, and the least start for it, of a set known up to most."""
    for period in range(1, most // 3):
        start = most - period
        while start > 0 and ((start - 1) in sizes) == ((start - 1 + period) in sizes):
            start -= 1
        if start <= most // 3:
            members = tuple(n for n in range(start) if n in sizes)
            return start, period, members, tuple(sorted({n % period for n in range(start, start + period) if n in sizes}))
    return None


def walk_machine(bench, goals, accepted, ends=0):
    """A machine whose terms of n places have the state to which goals lead in n - 1 steps from the leaf's state.

    Only narrow terms are read so: others have a state of their own. States are 0 .. len(goals), the last one for these.
    """
    dead = len(goals)
    rows = []
    for p in range(dead + 1):
        rows.append(tuple(goals[p] if p < dead and q == ends else dead for q in range(dead + 1)))
    return Machine(bench, 0, ((ends,),), (tuple(rows),), accepted)


def doubling_machine(times):
    """A machine of the terms whose two halves are as large, and theirs again, with 2^times leaves."""
    dead = times + 1
    rows = [[dead] * (dead + 1) for _ in range(dead + 1)]
    for p in range(times):
        rows[p][p] = p + 1
    return Machine(TREES, 0, ((0,),), (tuple(map(tuple, rows)),), (times,))


def late_machine(period):
    """States go round with the size, until the first join of two terms of the last state, which breaks the circle."""
    rows = [[(p + q + 1) % period for q in range(period)] + [period] for p in range(period)]
    rows[-1][period - 1] = period
    rows.append([period] * (period + 1))
    return Machine(TREES, 0, ((0,),), (tuple(map(tuple, rows)),), (period - 1,))


def told_of(machine):
    told = Sizes(machine)
    return told.start, told.period, told.members, told.rests


class SizesTest(unittest.TestCase):
    def check(self, machine, most=MOST):
        told = Sizes(machine)
        whole = least(machine)
        self.assertEqual(told.machine, whole)
        found = sizes_of_states(whole, most)
        for state, sizes in enumerate(found):
            self.assertEqual(told.state_sizes(state), told_by_hand(sizes, most))
        fits = set().union(*[found[state] for state in whole.accepted])
        self.assertEqual((told.start, told.period, told.members, told.rests), told_by_hand(fits, most))
        for n in range(-5, most + 1):
            self.assertIs(n in told, n in fits)
        for n in range(1, 61):
            term = told.term(n)
            self.assertIs(term is None, n not in fits)
            if term is not None:
                check_term(machine.bench, term, machine.many)
                self.assertEqual(size_of(term), n)
                self.assertTrue(machine.answers(term))
        return told

    def test_chance_machines(self):
        chance = seeded(1241)
        kinds = set()
        for turn in range(120):
            bench = BENCHES[turn % len(BENCHES)]
            machine = sparse_machine(chance, bench, turn % 2, chance.randint(2, 7), chance.choice([0.7, 0.85, 0.92]))
            told = self.check(machine, 70)
            kinds.add((told.start, told.period))
        self.assertGreater(len(kinds), 5)

    def test_compiled_machines(self):
        sayings = [
            ("count", "every", 0, 0, 2), ("count", "every", 2, 2, 3), ("count", "every", 3, 4, 1), ("to", "every", "every"),
            ("arrows", "every", "every", 1, 0, 2), ("in", "every", "none"), ("in", "none", "every"),
            ("and", ("count", "every", 1, 1, 4), ("not", ("count", "every", 1, 2, 1))),
        ]
        for saying in sayings:
            for bench in NAMED.values():
                self.check(machine_of(saying, bench), 70)

    def test_told_sets(self):
        def told(saying):
            sizes = Sizes(machine_of(saying, TREES))
            return sizes.start, sizes.period, sizes.members, sizes.rests
        self.assertEqual(told(("count", "every", 0, 0, 2)), (1, 2, (), (0,)))
        self.assertEqual(told(("count", "every", 1, 0, 2)), (0, 2, (), (1,)))
        self.assertEqual(told(("in", "every", "none")), (0, 1, (), ()))
        self.assertEqual(told(("in", "none", "every")), (1, 1, (), (0,)))
        self.assertEqual(told(("count", "every", 3, 4, 1)), (4, 1, (3,), ()))
        self.assertEqual(told(("or", ("count", "every", 1, 2, 1), ("count", "every", 3, 4, 1))), (4, 1, (1, 3), ()))
        self.assertEqual(told(("not", ("count", "every", 3, 4, 1))), (4, 1, (1, 2), (0,)))
        self.assertEqual(told(("or", ("count", "every", 0, 0, 2), ("count", "every", 1, 2, 1))), (2, 2, (1,), (0,)))

    def test_small_machines(self):
        even = Machine(TREES, 0, ((0,),), (((1, 0), (0, 1)),), (1,))
        self.assertEqual(told_of(even), (1, 2, (), (0,)))
        self.assertEqual([Sizes(even).state_sizes(0), Sizes(even).state_sizes(1)], [(0, 2, (), (1,)), (1, 2, (), (0,))])
        self.check(even)
        third = Machine(TREES, 0, ((1,),), (((0, 1, 2), (1, 2, 0), (2, 0, 1)),), (0, 2))
        self.assertEqual(told_of(third), (1, 3, (), (0, 2)))
        self.check(third)
        # Rows of up to five places, and one more state for all other terms.
        ends = Machine(TREES, 0, ((0,),), (tuple(
            tuple(p + 1 if p < 5 and q == 0 else 6 for q in range(7)) for p in range(7)
        ),), (0, 2, 5))
        self.assertEqual(told_of(ends), (7, 1, (1, 3, 6), ()))
        self.assertEqual(told_of(ends.accepting((0, 6))), (3, 1, (1,), (0,)))
        self.check(ends)
        self.check(ends.accepting((0, 6)))
        many = counting_machine(TREES, 0, 30, 7)
        self.assertEqual(told_of(many), (0, 30, (), (7,)))
        self.check(many.accepting((1, 6, 11, 16, 21, 26)), 120)
        self.assertEqual(told_of(many.accepting((1, 6, 11, 16, 21, 26))), (0, 5, (), (1,)))
        self.check(many.accepting((0, 7, 10, 20)), 120)

    def test_late_breaks(self):
        # Up to 2 * period - 1 places the states of all sizes repeat as if they did for ever.
        for period in range(1, 31):
            machine = late_machine(period)
            self.check(machine, 60 + 5 * period)
            self.assertEqual(told_of(machine), (1, period, (), (0,)) if period > 1 else (2, 1, (1,), ()))
            self.assertEqual(told_of(machine.accepting((period,))), (2 * period, 1, (), (0,)))
        for times in range(7):
            told = Sizes(doubling_machine(times))
            self.assertEqual((told.start, told.period, told.members, told.rests), (2 ** times + 1, 1, (2 ** times,), ()))
        self.check(doubling_machine(4))
        self.assertEqual(told_of(doubling_machine(7)), (129, 1, (128,), ()))
        refused(self, TooMany, lambda: Sizes(doubling_machine(8)), "sizes")

    def test_rows_that_tell(self):
        # A row tells start and period exactly if it goes up to twice their sum less 2.
        self.assertEqual(LONGEST, 2 * MOST_REPEAT - 1)
        for start in range(1, 9):
            for period in range(1, 9):
                whole = [-n for n in range(start)] + list(range(1, period + 1)) * 20
                enough = 2 * (start + period) - 1
                for length in range(2, 90):
                    told = repeat_of(whole[:length])
                    self.assertEqual(told, (start, period) if length >= enough else None)

    def test_work_goes_with_what_is_told(self):
        # So that a small machine is answered at once, states are not made for far more sizes than must be known.
        for d in (1, 2, 3, 7, 30, 99, 199):
            with mock.patch.object(States, "note", autospec=True, side_effect=States.note) as note:
                told = Sizes(counting_machine(TREES, 0, d))
            self.assertLessEqual(note.call_count, 3 * (told.start + told.period) + 3)

    def test_great_numbers(self):
        odd = Sizes(machine_of(("count", "every", 1, 0, 2), TREES))
        self.assertEqual([10 ** 60 in odd, 10 ** 60 + 1 in odd, 0 in odd, -1 in odd, -10 ** 60 + 1 in odd],
                         [False, True, False, False, False])
        even = Sizes(machine_of(("count", "every", 0, 0, 2), TREES))
        self.assertEqual([10 ** 60 in even, 0 in even, -2 in even, 2 in even], [True, False, False, True])

    def test_bound(self):
        for d in (199, 150, 97):
            told = Sizes(counting_machine(TREES, 0, d))
            self.assertEqual((told.start, told.period, told.members, told.rests), (1, d, (), (0,)))
            self.assertEqual(told.state_sizes(0), (0, d, (), (1,)))
        for d in (200, 201, 290):
            refused(self, TooMany, lambda: Sizes(counting_machine(TREES, 0, d)), "sizes")
        # A walk into a circle: the last state ahead of it has terms of one size, so its start is one more than that.
        for ahead, circle in ((100, 99), (0, 197), (197, 2), (198, 1)):
            goals = list(range(1, ahead + circle)) + [ahead]
            told = Sizes(walk_machine(TREES, goals, (ahead + circle - 1,)))
            self.assertEqual((told.start, told.period), (1 + ahead, circle))
            if ahead:
                self.assertEqual(told.state_sizes(told.machine.leaves[0][0]), (2, 1, (1,), ()))
            self.assertTrue(ahead + circle * 10 ** 9 in told)
            self.assertEqual([n for n in range(300) if n in told], list(range(ahead + circle, 300, circle)))
            goals = list(range(1, ahead + circle + 1)) + [ahead]
            refused(self, TooMany, lambda: Sizes(walk_machine(TREES, goals, (ahead + circle,))), "sizes")

    def test_bound_by_the_common_period(self):
        def two_circles(one, two):
            # A row of leaves that are not in the track goes round one circle, one of leaves in it round the other.
            size = one + two + 3
            none, some, dead = range(one + two, size)
            rows = [[dead] * size for _ in range(size)]
            rows[none][none], rows[some][some] = 0, one
            for x in range(one):
                rows[x][none] = (x + 1) % one
            for x in range(two):
                rows[one + x][some] = one + (x + 1) % two
            return Machine(TREES, 1, ((none, some),), (tuple(map(tuple, rows)),), (0, one))
        for one, two in ((13, 15), (9, 22), (11, 18)):
            told = Sizes(two_circles(one, two))
            self.assertEqual((told.start, told.period), (0, one * two))
            self.assertEqual(told.state_sizes(told.machine.leaves[0][0]), (2, 1, (1,), ()))
        refused(self, TooMany, lambda: Sizes(two_circles(8, 25)), "sizes")
        refused(self, TooMany, lambda: Sizes(two_circles(14, 15)), "sizes")
        self.check(two_circles(3, 4), 100)

    def test_wrong_numbers(self):
        told = Sizes(machine_of(("count", "every", 1, 0, 2), TREES))
        for wrong in (0, 61, -1, True, None, "1"):
            refused(self, BadNumber, lambda: told.term(wrong), "n")
        for wrong in (-1, 2, True, None, "0"):
            refused(self, BadNumber, lambda: told.state_sizes(wrong), "state")

    def test_joined_machines(self):
        chance = seeded(1242)
        for turn in range(50):
            bench = BENCHES[turn % len(BENCHES)]
            one = sparse_machine(chance, bench, 1, chance.randint(2, 4))
            two = sparse_machine(chance, bench, 1, chance.randint(2, 4))
            if turn % 3 == 0:
                two = one & two
            told = [Sizes(machine) for machine in (one, two, one | two, one ^ two)]
            for n in range(1, 80):
                self.assertIs(n in told[2], n in told[0] or n in told[1])
            term = parting_term(one, two)
            unlike = [n for n in range(1, 200) if n in told[3]]
            self.assertEqual(size_of(term) if term is not None else None, unlike[0] if unlike else None)
            self.assertIs(agree(one, two), not unlike)
            for size in (1, 2):
                alike = all(one.answers(term) == two.answers(term) for term in small_terms(bench, 2, 1)
                            if size_of(term) == size)
                self.assertIs(alike, size not in told[3])

    def test_many_states(self):
        for bench in BENCHES:
            machine = chance_machine(seeded(1243), bench, 1, 100)
            told = Sizes(machine)
            self.assertEqual((told.period, told.rests), (1, (0,)))
            self.assertEqual(size_of(told.term(60)), 60)


if __name__ == "__main__":
    unittest.main()
