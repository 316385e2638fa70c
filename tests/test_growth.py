import unittest
from itertools import product

from lotsayings.benches import Bench
from lotsayings.compiler import machine_of
from lotsayings.errors import BadNumber, OtherTracks, TooMany
from lotsayings.growth import Growth
from lotsayings.machines import Machine
from lotsayings.narrow import Narrow
from lotsayings.prices import Prices
from lotsayings.tables import LeastSizes
from tests.helpers import BENCHES, chance_machine, refused, seeded
from tests.test_narrow import leaf_states
from tests.test_prices import sparse_machine

ROWS = Bench.narrow_rows()
TREES = Bench.trees()
LEAF = (0, ())
LETTER = (0, 0, ())


def steps_by_letter(narrow):
    """For each letter a dict from live states to the live states to which it leads, twice if by both bits."""
    found = {}
    for letter in narrow.letters:
        states = leaf_states(narrow.machine, letter[1:])
        table = narrow.machine.rows[letter[0]]
        found[letter] = {p: [table[p][x] for x in states if table[p][x] in narrow.live] for p in narrow.live}
    return found


def led_from(steps, node):
    """All rows of states to which letters, at least one, lead a row of states."""
    met = set()
    todo = [node]
    while todo:
        row = todo.pop()
        for goals in steps.values():
            for goal in product(*[goals[state] for state in row]):
                if goal not in met:
                    met.add(goal)
                    todo.append(goal)
    return met


def has_double_loop(steps, state):
    """Whether letters lead the state to itself in two ways: by both bits of one letter, or through unlike states."""
    for pair in led_from(steps, (state, state)) | {(state, state)}:
        if (state, state) not in led_from(steps, pair) and pair != (state, state):
            continue
        if pair[0] != pair[1]:
            return True
        for goals in steps.values():
            for q in goals[pair[0]]:
                if goals[pair[0]].count(q) == 2 and ((q,) == (state,) or (state,) in led_from(steps, (q,))):
                    return True
    return False


def kind_by_hand(narrow):
    """The kind and the most links, by point 138, with all pairs and triples of states one by one."""
    if not narrow.live:
        return "none", None
    steps = steps_by_letter(narrow)
    if any(has_double_loop(steps, state) for state in narrow.live):
        return "double", None
    links = [(p, q) for p, q in product(narrow.live, repeat=2) if p != q and (p, q, q) in led_from(steps, (p, p, q))]
    further = {p: {goal[0] for goal in led_from(steps, (p,))} | {p} for p in narrow.live}
    longest = {link: 1 for link in links}
    for _ in links:
        for one, two in product(links, repeat=2):
            if two[0] in further[one[1]]:
                longest[one] = max(longest[one], longest[two] + 1)
    most = max(longest.values(), default=0)
    return "power" if most else "bounded", most


def rows_by_hand(narrow, most):
    """All number rows of words, or more than most of them."""
    found = {narrow.first_row(leaf) for leaf in narrow.firsts}
    todo = list(found)
    ways = [narrow.ways(letter) for letter in narrow.letters]
    while todo and len(found) <= most:
        row = todo.pop(0)
        for table in ways:
            longer = tuple(sum(row[p] * table[p][q] for p in range(len(row))) for q in range(len(row)))
            if longer not in found:
                found.add(longer)
                todo.append(longer)
    return found


def greatest_numbers(narrow, letters):
    """The greatest number of a word for each number of letters from 0 up to some."""
    rows = {narrow.first_row(leaf) for leaf in narrow.firsts}
    found = []
    for _ in range(letters + 1):
        found.append(max(narrow.number_at(row) for row in rows))
        rows = {narrow.next_row(row, letter) for row in rows for letter in narrow.letters}
    return found


def two_circles(one, two):
    """Words of the one letter have one fitting lot by each circle when it comes round: lcm(one, two) number rows."""
    size = one + two + 1
    dead = size - 1
    rows = [[dead] * size for _ in range(size)]
    for x in range(one):
        rows[x][0] = (x + 1) % one
    for x in range(two):
        rows[one + x][0] = one + (x + 1) % two
    return Machine(ROWS, 1, ((0, one),), (tuple(map(tuple, rows)),), (0, one))


def rising_machine(chance, bench, many, states):
    """A machine whose joins lead on to the left state or a later one, of which the last one is not useful."""
    def entry(p, q):
        if q % 2 == 0 and chance.random() < 0.8:
            return p
        return min(states - 1, p + chance.choice([0, 1, 1, 1, 2, 3]))
    half = 1 << many - 1
    leaves = tuple((chance.choice([0, 0, 2]),) * half + (chance.choice([1, 1, 3]),) * half for _ in bench.starts)
    rows = tuple(tuple(tuple(entry(p, q) for q in range(states)) for p in range(states)) for _ in bench.joins)
    return Machine(bench, many, leaves, rows, tuple(state for state in range(states - 1) if chance.random() < 0.6))


def chance_growing(chance, turn):
    bench = BENCHES[turn % len(BENCHES)]
    many = 1 + (turn % 7 == 0)
    if turn % 2:
        return rising_machine(chance, bench, many, chance.randint(4, 8))
    if turn % 3:
        return sparse_machine(chance, bench, many, chance.randint(2, 6), chance.choice([0.3, 0.5, 0.6, 0.7]))
    return chance_machine(chance, bench, many, chance.randint(1, 4))


class GrowthTest(unittest.TestCase):
    def check(self, machine):
        told = Growth(machine)
        narrow = told.narrow
        self.assertIsInstance(narrow, Narrow)
        self.assertEqual((told.kind, told.links), kind_by_hand(narrow))
        self.assertIn(told.kind, Growth.KINDS)
        self.check_chain(told, narrow)
        self.check_loop(told, narrow)
        if told.kind == "bounded":
            rows = rows_by_hand(narrow, 300)
            self.assertEqual(told.number_rows, tuple(sorted(rows)))
            self.assertEqual(told.greatest, max(map(narrow.number_at, rows)))
        else:
            self.assertEqual((told.number_rows, told.greatest), (None, None))
        self.check_pumped(told, narrow)
        return told

    def check_chain(self, told, narrow):
        chain = told.chain
        self.assertEqual((type(chain), len(chain)), (tuple, told.links or 0))
        steps = steps_by_letter(narrow)
        for p, q in chain:
            self.assertNotEqual(p, q)
            self.assertIn((p, q, q), led_from(steps, (p, p, q)))
        for one, two in zip(chain, chain[1:]):
            self.assertTrue(one[1] == two[0] or (two[0],) in led_from(steps, (one[1],)))

    def check_loop(self, told, narrow):
        if told.kind != "double":
            self.assertIsNone(told.double_loop)
            return
        state, letters = told.double_loop
        self.assertEqual((type(letters), state in narrow.live, len(letters) > 0), (tuple, True, True))
        row = tuple(int(q == state) for q in range(narrow.machine.states))
        for letter in letters:
            row = narrow.next_row(row, letter)
        self.assertGreaterEqual(row[state], 2)

    def check_pumped(self, told, narrow):
        for times in range(1, 7):
            found = told.pumped(times)
            if told.kind == "none":
                self.assertIsNone(found)
                continue
            leaf, letters = found
            self.assertIsInstance(letters, tuple)
            k = told.links or 0
            wanted = 2 ** times if told.kind == "double" else times ** k
            self.assertGreaterEqual(narrow.total(leaf, letters), wanted)
            self.assertLessEqual(len(letters), 2 * (times + 1) * (k + 2) * len(narrow.live) ** 3)

    def test_chance_machines(self):
        chance = seeded(1271)
        kinds = {}
        for turn in range(400):
            told = self.check(chance_growing(chance, turn))
            kinds[told.kind, told.links] = kinds.get((told.kind, told.links), 0) + 1
        for kind in (("none", None), ("bounded", 0), ("power", 1), ("power", 2), ("double", None)):
            self.assertGreater(kinds.get(kind, 0), 5, kinds)

    def test_numbers_of_all_words(self):
        chance = seeded(1272)
        for turn in range(120):
            told = Growth(chance_growing(chance, turn))
            numbers = greatest_numbers(told.narrow, 4)
            if told.kind == "none":
                self.assertEqual(set(numbers), {0})
            elif told.kind == "bounded":
                self.assertLessEqual(max(numbers), told.greatest)

    def test_powers(self):
        for saying, links in (
            (("count", "X", 1, 2, 1), 1), (("count", "X", 2, 3, 1), 2), (("not", ("count", "X", 4, 4, 1)), 3),
            (("and", ("count", "X", 2, 3, 1), ("not", ("to", "X", "X"))), 2), (("in", "X", "none"), 0),
            (("in", "every", "X"), 0), (("or", ("count", "X", 2, 3, 1), ("count", ("-", "every", "X"), 3, 4, 1)), 3),
        ):
            told = self.check(machine_of(saying, ROWS))
            self.assertEqual((told.kind, told.links), ("power" if links else "bounded", links))
        for saying in (("in", "X", "every"), ("not", ("to", "X", "X")), ("count", "X", 0, 0, 2), ("to", "X", "X")):
            told = self.check(machine_of(saying, ROWS))
            self.assertEqual((told.kind, told.links, told.chain), ("double", None, ()))
        nothing = self.check(machine_of(("and", ("in", "X", "none"), ("not", ("in", "X", "none"))), ROWS))
        self.assertEqual((nothing.kind, nothing.links, nothing.chain, nothing.greatest), ("none", None, (), None))

    def test_numbers_that_are_powers(self):
        choose = Growth(machine_of(("count", "X", 2, 3, 1), ROWS)).narrow
        for many in range(8):
            self.assertEqual(choose.total(LEAF, [LETTER] * many), (many + 1) * many // 2)

    def test_three_hundred_rows(self):
        told = Growth(two_circles(12, 25))
        self.assertEqual((told.kind, len(told.number_rows), told.greatest), ("bounded", 300, 2))
        self.assertEqual(list(told.number_rows), sorted(told.number_rows))
        more = Growth(two_circles(7, 43))
        self.assertEqual((more.kind, more.links, more.chain, more.double_loop), ("bounded", 0, (), None))
        refused(self, TooMany, lambda: more.number_rows, "rows")
        refused(self, TooMany, lambda: more.greatest, "rows")
        self.assertGreaterEqual(more.narrow.total(*more.pumped(6)), 1)

    def test_known_growths(self):
        few = ("or", ("count", "X", 0, 2, 1), ("count", "X", 1, 2, 1))
        told = Growth(machine_of(few, ROWS))
        self.assertEqual((told.kind, told.links, told.chain, told.greatest), ("power", 1, ((0, 1),), None))
        empty = Growth(machine_of(("in", "X", "none"), ROWS))
        self.assertEqual((empty.number_rows, empty.greatest, empty.pumped(3)[0]), (((1, 0),), 1, LEAF))

    def test_loops_through_unlike_states(self):
        # From state 0 both bits lead on, to 1 and to 2, and from there one bit each leads back.
        rows = [[4] * 5 for _ in range(5)]
        rows[0][0], rows[0][3] = 1, 2
        rows[1][0] = rows[2][3] = 0
        machine = Machine(ROWS, 1, ((0, 3),), (tuple(map(tuple, rows)),), (0, 3))
        told = self.check(machine)
        self.assertEqual((told.kind, len(told.double_loop[1]) % 2), ("double", 0))
        rows[2][3] = 4
        self.assertEqual(self.check(Machine(ROWS, 1, ((0, 3),), (tuple(map(tuple, rows)),), (0, 3))).kind, "bounded")

    def test_links_by_different_letters_are_none(self):
        # Letter by letter: one letter keeps p and leads to q, only the other one keeps q.
        names = ["Y", "X"]
        only = ("and", ("count", "X", 1, 2, 1), ("in", "X", "Y"))
        told = self.check(machine_of(only, ROWS, names=names))
        self.assertEqual((told.kind, told.links), ("power", 1))
        last = ("and", ("count", "Y", 1, 2, 1), only)
        self.assertEqual(self.check(machine_of(last, ROWS, names=names)).kind, "bounded")

    def test_many_states(self):
        both = ("and", ("count", "X", 3, 4, 1), ("count", ("&", "X", "Y"), 1, 2, 1))
        chain = Growth(machine_of(both, ROWS, names=["Y", "X"]))
        self.assertEqual((chain.kind, chain.links), ("power", 3))
        great = chance_machine(seeded(1273), ROWS, 1, 100)
        self.assertEqual(Growth(great).kind, "double")
        long = 60
        rows = [[0] * (long + 2) for _ in range(long + 2)]
        for x in range(long + 1):
            rows[x][0], rows[x][1] = x, min(x + 1, long)
        told = Growth(Machine(ROWS, 1, ((0, 1),), (tuple(map(tuple, rows)),), (long - 1,)))
        self.assertEqual((told.kind, told.links), ("power", long - 1))
        self.assertGreaterEqual(told.narrow.total(*told.pumped(3)), 3 ** (long - 1))

    def test_refusals(self):
        refused(self, OtherTracks, lambda: Growth(chance_machine(seeded(1274), TREES, 0, 2)))
        for saying in (("in", "X", "every"), ("in", "X", "none"), ("count", "X", 1, 2, 1), ("in", "every", "none")):
            told = Growth(machine_of(saying, ROWS, names=["X"]))
            for times in (0, 7, -1, True, None, "1"):
                refused(self, BadNumber, lambda: told.pumped(times), "times")


class JoinedTest(unittest.TestCase):
    """What point 143 says."""

    def test_kind_of_either(self):
        chance = seeded(1275)
        met = set()
        for turn in range(200):
            bench = BENCHES[turn % len(BENCHES)]
            one, two = [sparse_machine(chance, bench, 1, chance.randint(2, 5), 0.6) for _ in range(2)]
            told = [Growth(machine) for machine in (one, two, one | two)]
            kinds = [Growth.KINDS.index(growth.kind) for growth in told]
            self.assertEqual(kinds[2], max(kinds[:2]))
            met.add(tuple(kinds[:2]))
            if all(growth.kind in ("power", "bounded") for growth in told):
                self.assertEqual(told[2].links, max(told[0].links, told[1].links))
        self.assertGreater(len(met), 7)

    def test_bounded_prices(self):
        chance = seeded(1276)
        checked = 0
        for turn in range(300):
            machine = sparse_machine(chance, BENCHES[turn % len(BENCHES)], 1, chance.randint(2, 6), 0.6)
            prices = Prices(machine, (1, 0))
            if not prices.bounded:
                continue
            told = Growth(machine)
            least = LeastSizes(machine)
            self.assertNotEqual(told.kind, "double")
            self.assertTrue(least.bounded)
            if prices.bound is not None:
                if told.links is not None:
                    self.assertLessEqual(told.links, prices.bound)
                if least.greatest is not None:
                    self.assertLessEqual(least.greatest, prices.bound)
                checked += 1
        self.assertGreater(checked, 30)

    def test_one_lot_at_most(self):
        chance = seeded(1277)
        met = {}
        for turn in range(300):
            told = Growth(chance_growing(chance, turn))
            rows = rows_by_hand(told.narrow, 300)
            if len(rows) > 300:
                continue
            most = max(map(told.narrow.number_at, rows))
            if most <= 1:
                self.assertEqual((told.kind, told.greatest), ("bounded", 1) if most else ("none", None))
                met[most] = met.get(most, 0) + 1
        self.assertGreater(min(met[0], met[1]), 10)
        roots = machine_of(("in", ("^", "X", "Y"), "none"), TREES, names=["Y", "X"])
        told = Growth(roots)
        self.assertEqual((told.kind, told.greatest), ("bounded", 1))


if __name__ == "__main__":
    unittest.main()
