import unittest

from lotsayings.benches import Bench
from lotsayings.branches import branch_kinds, children_of
from lotsayings.errors import BadNumber, BadTerm, NotOnTrees
from lotsayings.forms import exchange_way, place_states, tree_row, tree_term
from lotsayings.machines import Machine
from lotsayings.terms import hung, many_of, size_of, tracks_of, web_of
from lotsayings.webs import equal_by
from tests.helpers import chance_machine, chance_term, children_by_web, seeded, small_terms

TREES = Bench.trees()
LEAF = (0, ())


def row_by_hand(term):
    """The tree row of the root, told by arrows and tracks alone."""
    children = children_by_web(TREES, term)
    tracks = tracks_of(term)

    def row(place):
        number = sum(1 << k for k, lot in enumerate(tracks) if place in lot)
        found = ((len(children[place]), number),)
        for part in sorted(row(child) for child in children[place]):
            found += part
        return found

    return row(0)


def neighbours(term):
    """All terms that one exchange makes of a term."""
    found = []
    if len(term) == 3:
        _, left, right = term
        if len(left) == 3:
            found.append((0, (0, left[1], right), left[2]))
        found.extend((0, other, right) for other in neighbours(left))
        found.extend((0, left, other) for other in neighbours(right))
    return found


def is_exchange(one, two):
    """Whether one exchange turns a term into the other one; parts that are the same object are not looked at."""
    while True:
        if len(one) == 2 or len(two) == 2:
            return False
        if len(one[1]) == 3 and (0, (0, one[1][1], one[2]), one[1][2]) == two:
            return True
        left, right = one[1] is two[1] or one[1] == two[1], one[2] is two[2] or one[2] == two[2]
        if left == right:
            return False
        one, two = (one[2], two[2]) if left else (one[1], two[1])


def shuffled(chance, term):
    """The term after some chance exchanges."""
    for _ in range(chance.randint(0, 8)):
        found = neighbours(term)
        if found:
            term = chance.choice(found)
    return term


class TreeRowTest(unittest.TestCase):
    def test_against_a_reckoning_by_hand(self):
        for many, most in ((0, 6), (1, 4), (2, 3)):
            for term in small_terms(TREES, most, many):
                row = tree_row(term)
                self.assertEqual(row, row_by_hand(term))
                self.assertEqual(tree_row(tree_term(row, many)), row)

    def test_great_terms(self):
        chance = seeded(461)
        for size in (50, 120, 200):
            for many in (0, 3):
                term = chance_term(chance, TREES, size, many)
                row = tree_row(term)
                self.assertEqual(row, row_by_hand(term))
                self.assertEqual(tree_row(tree_term(row, many)), row)
        chain = LEAF
        for _ in range(199):
            chain = (0, LEAF, chain)
        self.assertEqual(tree_row(chain), ((1, 0),) * 199 + ((0, 0),))
        self.assertEqual(tree_row(hung(LEAF, LEAF, times=199)), ((199, 0),) + ((0, 0),) * 199)

    def test_equal_rows_are_equal_webs(self):
        terms = list(small_terms(TREES, 4, 1))
        for one in terms[::7]:
            for two in terms:
                alike = equal_by(web_of(TREES, one), tracks_of(one), web_of(TREES, two), tracks_of(two)) is not None
                self.assertEqual(tree_row(one) == tree_row(two), alike)

    def test_branches(self):
        term = (0, (0, (0, (1,)), (0, (0, (0,)), (0, (1,)))), (0, (0, (0,)), (0, (1,))))
        self.assertEqual(children_of(term), [[1, 3], [2], [], [4], []])
        kinds = branch_kinds(children_of(term), "10101")
        self.assertEqual(kinds[1], kinds[3])
        self.assertEqual(kinds[2], kinds[4])
        self.assertEqual(len(set(kinds)), 3)


class TreeTermTest(unittest.TestCase):
    def test_children_in_their_order(self):
        row = ((3, 1), (1, 0), (0, 1), (0, 0), (1, 0), (0, 0))
        found = tree_term(row, 1)
        branch = (0, (0, (0,)), (0, (1,)))
        last = (0, (0, (0,)), (0, (0,)))
        self.assertEqual(found, (0, (0, (0, (0, (1,)), branch), (0, (0,))), last))
        self.assertEqual(tree_row(found), ((3, 1), (0, 0), (1, 0), (0, 0), (1, 0), (0, 1)))
        self.assertEqual(tree_term(((0, 31),), 5), (0, (1, 1, 1, 1, 1)))
        self.assertEqual(tree_term(((0, 5),), 4), (0, (1, 0, 1, 0)))

    def test_many(self):
        for many in (-1, 6, True, None, "1"):
            with self.assertRaises(BadNumber) as caught:
                tree_term("no row", many)
            self.assertEqual(caught.exception.which, "many")
        self.assertEqual(many_of(tree_term(((0, 0),), 0)), 0)

    def test_wrong_rows(self):
        good = ((1, 1), (0, 0))
        self.assertEqual(size_of(tree_term(good, 1)), 2)
        for row in (
            (), [(1, 1), (0, 0)], ((1, 1),), ((0, 0), (0, 0)), ((1, 1), (0, 0), (0, 0)), ((2, 0), (0, 0)),
            ((1, 1), [0, 0]), ((1, 1), (0, 0, 0)), ((1, 1), (0,)), ((1, 2), (0, 0)), ((1, -1), (0, 0)),
            ((1, True), (0, 0)), ((True, 1), (0, 0)), ((1, 1), (False, 0)), ((1, 1), None), None, 5, ((-1, 0),),
            ((10 ** 60, 0), (0, 0)), ((1, "1"), (0, 0)), ((1, None), (0, 0)),
        ):
            with self.assertRaises(BadNumber) as caught:
                tree_term(row, 1)
            self.assertEqual(caught.exception.which, "row")
        with self.assertRaises(BadNumber):
            tree_term(((0, 1),), 0)

    def test_two_hundred_pairs(self):
        for pair in ((1, 0), (0, 0)):
            row = ((199, 0),) + ((0, 0),) * 199 if pair[0] == 0 else ((1, 0),) * 199 + ((0, 0),)
            self.assertEqual(tree_row(tree_term(row, 0)), row)
            longer = ((200, 0),) + ((0, 0),) * 200 if pair[0] == 0 else ((1, 0),) * 200 + ((0, 0),)
            with self.assertRaises(BadNumber) as caught:
                tree_term(longer, 0)
            self.assertEqual(caught.exception.which, "row")


class PlaceStatesTest(unittest.TestCase):
    def states_by_hand(self, machine, term):
        found = []

        def walk(part):
            if len(part) == 2:
                found.append(machine.state(part))
                return len(found) - 1
            place = walk(part[1])
            child = walk(part[2])
            found[place] = machine.rows[0][found[place]][found[child]]
            return place

        walk(term)
        return tuple(found)

    def test_against_a_reckoning_by_hand(self):
        chance = seeded(462)
        for _ in range(100):
            many = chance.randint(0, 2)
            machine = chance_machine(chance, TREES, many, chance.randint(1, 6))
            term = chance_term(chance, TREES, chance.randint(1, 30), many)
            states = place_states(machine, term)
            self.assertEqual(states, self.states_by_hand(machine, term))
            self.assertEqual(states[0], machine.state(term))

    def test_order_of_hanging(self):
        machine = Machine(TREES, 1, ((0, 1),), (((0, 2, 0), (0, 1, 2), (2, 1, 0)),), (0,))
        one = (0, (0, (0, (0,)), (0, (1,))), (0, (0,)))
        two = (0, (0, (0, (0,)), (0, (0,))), (0, (1,)))
        self.assertEqual(place_states(machine, one), (2, 1, 0))
        self.assertEqual(place_states(machine, two), (2, 0, 1))
        three = (0, (0, (0, (1,)), (0, (1,))), (0, (0,)))
        self.assertEqual(place_states(machine, three), (0, 1, 0))

    def test_refusals_in_their_order(self):
        chance = seeded(463)
        for bench in (Bench.boughs(), Bench.cotrees(), Bench.narrow_rows()):
            with self.assertRaises(NotOnTrees):
                place_states(chance_machine(chance, bench, 1, 3), "no term")
        machine = chance_machine(chance, TREES, 1, 3)
        for term, path in (
            ("no term", ()), (LEAF, ()), ((0, (0, (1,)), (1, (0,))), (1,)), ((0, None, (0, (1,))), (0,)),
        ):
            with self.assertRaises(BadTerm) as caught:
                place_states(machine, term)
            self.assertEqual(caught.exception.path, path)


class ExchangeWayTest(unittest.TestCase):
    def judge(self, one, two):
        way = exchange_way(one, two)
        self.assertIsInstance(way, list)
        self.assertEqual(way[0], one)
        self.assertEqual(way[-1], two)
        for ahead, behind in zip(way, way[1:]):
            self.assertTrue(is_exchange(ahead, behind))
        return way

    def test_chance_terms(self):
        chance = seeded(464)
        for _ in range(150):
            one = chance_term(chance, TREES, chance.randint(1, 9), chance.randint(0, 1))
            way = self.judge(one, shuffled(chance, one))
            for ahead, behind in zip(way, way[1:]):
                self.assertIn(behind, neighbours(ahead))

    def test_all_small_terms(self):
        terms = list(small_terms(TREES, 4, 1))
        for one in terms[::5]:
            for two in terms:
                if tree_row(one) == tree_row(two):
                    self.judge(one, two)
                else:
                    self.assertIsNone(exchange_way(one, two))

    def test_ends(self):
        one = (0, (0, (0, (1,)), (0, (0,))), (0, (1,)))
        two = (0, (0, (0, (1,)), (0, (1,))), (0, (0,)))
        self.assertEqual(exchange_way(one, one), [one])
        self.assertEqual(exchange_way(one, two), [one, two])
        self.assertIsNone(exchange_way(LEAF, (0, (0,))))
        self.assertIsNone(exchange_way((0, (0,)), (0, (1,))))
        self.assertIsNone(exchange_way((0, LEAF, LEAF), LEAF))

    def test_two_hundred_places(self):
        chance = seeded(465)
        bits = [(k % 2,) for k in range(199)]
        wide = [(0, (0,)), (0, (0,))]
        for row, at in ((bits, 0), (sorted(bits), 1)):
            for bit in row:
                wide[at] = (0, wide[at], (0, bit))
        self.judge(wide[0], wide[1])
        chain = (0, (1,))
        for _ in range(199):
            chain = (0, (0, (0,)), chain)
        self.assertEqual(exchange_way(chain, chain), [chain])
        below = [(0, (0, (0, (0,)), (0, (1,))), (0, (0,))), (0, (0, (0, (0,)), (0, (0,))), (0, (1,)))]
        for _ in range(197):
            below = [(0, (0, (0,)), part) for part in below]
        self.assertEqual(len(self.judge(below[0], below[1])), 2)
        comb = [(0, (0,)), (0, (0,))]
        for _ in range(99):
            comb = [(0, (0, (0, (0,)), comb[0]), (0, (1,))), (0, (0, (0, (0,)), (0, (1,))), comb[1])]
        self.assertEqual(size_of(comb[0]), 199)
        self.judge(comb[0], comb[1])
        one = chance_term(chance, TREES, 200, 1)
        two = tree_term(tree_row(one), 1)
        self.judge(one, two)


if __name__ == "__main__":
    unittest.main()
