import unittest

from lotsayings.benches import Bench
from lotsayings.errors import BadMachine, BadNumber, BadTerm, OtherBench, OtherTracks, TooGreat
from lotsayings.leasts import least
from lotsayings.machines import Answer, Machine, bits_number, bits_of
from lotsayings.terms import hung, put
from tests.helpers import NAMED, WIDE, chance_context, chance_machine, chance_term, seeded, small_terms

TREES = Bench.trees()
LEAF = (0, ())
PARTS = (TREES, 1, ((0, 1),), (((0, 0, 2), (1, 2, 2), (2, 2, 2)),), (0, 1))


def no_arrow():
    return Machine(*PARTS)


def circle(states):
    """The number of places modulo states, less one."""
    rows = tuple(tuple((p + q + 1) % states for q in range(states)) for p in range(states))
    return Machine(TREES, 0, ((0,),), (rows,), (states - 1,))


class MakingTest(unittest.TestCase):
    def bad(self, which, **changes):
        names = ("bench", "many", "leaves", "rows", "accepted")
        parts = {name: part for name, part in zip(names, PARTS)}
        parts.update(changes)
        with self.assertRaises(BadMachine) as caught:
            Machine(*[parts[name] for name in names])
        self.assertEqual(caught.exception.which, which)

    def test_attributes(self):
        machine = no_arrow()
        found = (machine.bench, machine.many, machine.leaves, machine.rows, machine.accepted)
        self.assertEqual(found, PARTS)
        self.assertEqual((machine.states, len(machine)), (3, 3))

    def test_equality(self):
        machine = no_arrow()
        self.assertEqual(machine, no_arrow())
        self.assertNotEqual(machine, machine.accepting((0,)))
        self.assertNotEqual(machine, Machine(Bench.boughs(), *PARTS[1:]))
        self.assertNotEqual(machine, Machine(TREES, 1, ((0, 2),), *PARTS[3:]))
        self.assertIs(machine == PARTS, False)

    def test_bench_and_many(self):
        self.bad("bench", bench=None, many=9)
        self.bad("bench", bench=(2, (0,), ()), many=9)
        for many in (-1, 6, True, None, "1"):
            self.bad("many", many=many, leaves=None)

    def test_leaves(self):
        wrong = [
            None, ((0, 1), (0, 1)), (), [(0, 1)], ([0, 1],), ((0,),), ((0, 1, 2),), ((0, 300),), ((0, -1),),
            ((0, True),), ((0, None),), (0, 1),
        ]
        for leaves in wrong:
            self.bad("leaves", leaves=leaves, rows=None, accepted=None)
        self.bad("rows", leaves=((0, 299),), rows=None, accepted=None)
        self.bad("leaves", leaves=((0, 3),), accepted=None)
        self.bad("leaves", leaves=((0, 299),), accepted=None)

    def test_rows(self):
        table = PARTS[3][0]
        wrong = [
            None, (), [table], (table, table), ([*table],), ((),), (table[:2],), ((table[0], table[1], (2, 2)),),
            ((table[0], table[1], [2, 2, 2]),), ((table[0], table[1], (2, 2, 3)),),
            ((table[0], table[1], (2, 2, -1)),), ((table[0], table[1], (2, 2, True)),), (table[0],), (None,),
        ]
        for rows in wrong:
            self.bad("rows", rows=rows, accepted=None)
        with self.assertRaises(BadMachine) as caught:
            Machine(Bench.cotrees(), 0, ((0,),), (((0,),), ((0, 0), (0, 0))), ())
        self.assertEqual(caught.exception.which, "rows")
        self.bad("rows", rows=(((0,) * 301,) * 301,))

    def test_accepted(self):
        for accepted in (None, [0], (3,), (-1,), (1, 0), (0, 0), (True,), ("0",), 0):
            self.bad("accepted", accepted=accepted)
            with self.assertRaises(BadMachine) as caught:
                no_arrow().accepting(accepted)
            self.assertEqual(caught.exception.which, "accepted")
        self.assertEqual(no_arrow().accepting(()).accepted, ())
        self.assertEqual(no_arrow().accepting((1, 2)), Machine(*PARTS[:4], (1, 2)))

    def test_one_state_and_300_states(self):
        one = Machine(Bench.cotrees(), 5, ((0,) * 32,), (((0,),), ((0,),)), (0,))
        self.assertIs(one.answers((0, (1, 0, 1, 1, 0))), True)
        great = circle(300)
        self.assertEqual(great.states, 300)
        self.assertEqual(great.state(hung(LEAF, LEAF, times=199)), 199)
        self.assertEqual(least(great).states, 300)
        self.assertEqual((~great).states, 300)


class WalkingTest(unittest.TestCase):
    def by_hand(self, machine, part, hole=None):
        if part is None:
            return hole
        if len(part) == 2:
            row = machine.leaves[machine.bench.starts.index(part[0])]
            return row[sum(bit * 2 ** k for k, bit in enumerate(part[1]))]
        left = self.by_hand(machine, part[1], hole)
        return machine.rows[part[0]][left][self.by_hand(machine, part[2], hole)]

    def test_state_and_answers(self):
        chance = seeded(14)
        for bench in list(NAMED.values()) + [WIDE]:
            for many in (0, 2, 5):
                machine = chance_machine(chance, bench, many, 4)
                for _ in range(20):
                    term = chance_term(chance, bench, chance.randint(1, 9), many)
                    state = self.by_hand(machine, term)
                    self.assertEqual(machine.state(term), state)
                    self.assertIs(machine.answers(term), state in machine.accepted)
                    self.assertIs(Answer(machine)(term), machine.answers(term))
                    context = chance_context(chance, bench, chance.randint(0, 5), many)
                    for hole in range(4):
                        self.assertEqual(machine.state_in(context, hole), self.by_hand(machine, context, hole))
                    self.assertEqual(machine.state(put(context, term)), machine.state_in(context, state))
        machine = no_arrow()
        self.assertIs(Answer(machine).machine, machine)

    def test_errors(self):
        machine = no_arrow()
        for call in (machine.state, machine.answers, Answer(machine)):
            with self.assertRaises(BadTerm) as caught:
                call((0, (0, (0,)), (0, ())))
            self.assertEqual(caught.exception.path, (1,))
            with self.assertRaises(BadTerm) as caught:
                call(None)
            self.assertEqual(caught.exception.path, ())
        with self.assertRaises(BadTerm) as caught:
            machine.state_in((0, None, (0, (2,))), 9)
        self.assertEqual(caught.exception.path, (1,))
        with self.assertRaises(BadTerm) as caught:
            machine.state_in((0, None, None), 0)
        self.assertEqual(caught.exception.path, ())
        for state in (3, -1, True, None):
            with self.assertRaises(BadNumber) as caught:
                machine.state_in(None, state)
            self.assertEqual(caught.exception.which, "state")

    def test_bits(self):
        self.assertEqual(bits_number(()), 0)
        self.assertEqual(bits_number((1, 0, 1)), 5)
        self.assertEqual(bits_of(5, 4), (1, 0, 1, 0))
        self.assertEqual(bits_of(0, 0), ())
        for number in range(32):
            self.assertEqual(bits_number(bits_of(number, 5)), number)


def told_by_hand(bench, many, leaf, join):
    """The told order of finding, word for word."""
    found = []

    def number(code):
        if code not in found:
            found.append(code)
        return found.index(code)

    leaves = tuple(
        tuple(number(leaf(label, bits_of(k, many))) for k in range(2 ** many)) for label in bench.starts
    )
    table = {}
    top = 0
    while top < len(found):
        pairs = sorted([(p, q) for p in range(top + 1) for q in range(top + 1) if max(p, q) == top])
        for p, q in pairs:
            for j in range(len(bench.joins)):
                table[j, p, q] = number(join(j, found[p], found[q]))
        top += 1
    many_states = range(len(found))
    rows = tuple(
        tuple(tuple(table[j, p, q] for q in many_states) for p in many_states) for j in range(len(bench.joins))
    )
    return Machine(bench, many, leaves, rows, ())


class ToldTest(unittest.TestCase):
    def test_order_of_finding(self):
        chance = seeded(15)
        for bench in list(NAMED.values()) + [WIDE]:
            for many in (0, 1, 3):
                for size in (1, 3, 8, 13):
                    leaf_code = [[chance.randrange(size) for _ in range(32)] for _ in range(3)]
                    rows = [[[chance.randrange(size) for _ in range(size)] for _ in range(size)] for _ in range(3)]

                    def leaf(label, bits):
                        return leaf_code[label][bits_number(bits)] - 7

                    def join(j, p, q):
                        return rows[j][p + 7][q + 7] - 7

                    self.assertEqual(Machine.told(bench, many, leaf, join), told_by_hand(bench, many, leaf, join))

    def test_bits_are_told_as_tuples(self):
        seen = []
        Machine.told(WIDE, 2, lambda label, bits: seen.append((label, bits)) or 0, lambda j, p, q: 0)
        self.assertEqual(seen[:8], [(label, bits_of(k, 2)) for label in (0, 2) for k in range(4)])

    def test_hundred_codes(self):
        def counting(most):
            return Machine.told(TREES, 0, lambda label, bits: 1, lambda j, p, q: min(p + q, most))

        self.assertEqual(counting(100).states, 100)
        self.assertEqual(counting(100).accepted, ())
        with self.assertRaises(TooGreat) as caught:
            counting(101)
        self.assertEqual(caught.exception.step, "pairs")

    def test_errors(self):
        with self.assertRaises(BadMachine) as caught:
            Machine.told(None, 9, None, None)
        self.assertEqual(caught.exception.which, "bench")
        for many in (6, -1, True):
            with self.assertRaises(BadMachine) as caught:
                Machine.told(TREES, many, None, None)
            self.assertEqual(caught.exception.which, "many")


class OperatorsTest(unittest.TestCase):
    def test_answers(self):
        chance = seeded(16)
        for bench in list(NAMED.values()) + [WIDE]:
            for many in (0, 1):
                one = chance_machine(chance, bench, many, 4)
                two = chance_machine(chance, bench, many, 3)
                made = [~one, one & two, one | two, one ^ two]
                for term in small_terms(bench, 3, many):
                    a, b = one.answers(term), two.answers(term)
                    expected = [not a, a and b, a or b, a != b]
                    self.assertEqual([machine.answers(term) for machine in made], expected)
                for machine in made:
                    self.assertEqual(least(machine), machine)

    def test_told_equalities(self):
        chance = seeded(17)
        for bench in list(NAMED.values()) + [WIDE]:
            m, n, k = [chance_machine(chance, bench, 1, 3) for _ in range(3)]
            self.assertEqual(m & n, n & m)
            self.assertEqual(m | n, n | m)
            self.assertEqual((m & n) & k, m & (n & k))
            self.assertEqual((m | n) | k, m | (n | k))
            self.assertEqual(~(m & n), ~m | ~n)
            self.assertEqual(~~m, least(m))
            self.assertEqual((m ^ m).states, 1)
            self.assertEqual((m ^ m).accepted, ())
            self.assertEqual(m ^ n, (m | n) & ~(m & n))

    def test_errors_in_their_order(self):
        calls = [lambda m, n: m & n, lambda m, n: m | n, lambda m, n: m ^ n]
        other = Machine(Bench.narrow_rows(), 0, ((0,),), (((0,),),), ())
        fewer = Machine(TREES, 0, ((0,),), (((0,),),), ())
        for call in calls:
            with self.assertRaises(OtherBench):
                call(no_arrow(), other)
            with self.assertRaises(OtherTracks):
                call(no_arrow(), fewer)
            with self.assertRaises(TooGreat) as caught:
                call(circle(11), circle(10))
            self.assertEqual(caught.exception.step, "pairs")
            self.assertLessEqual(call(circle(20), circle(5)).states, 20)
            self.assertLessEqual(call(circle(25), circle(4)).states, 100)


if __name__ == "__main__":
    unittest.main()
