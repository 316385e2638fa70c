import unittest

from lotsayings.benches import Bench
from lotsayings.compiler import machine_of
from lotsayings.errors import BadLot, BadTerm, NotOnTrees, NotWeb, OtherTracks, TooMany
from lotsayings.machines import Machine
from lotsayings.terms import hung, size_of, tracks_of, web_of
from lotsayings.unmoved import equal_children, has_three, is_unmoved, lots_of, unmoved_lots
from lotsayings.webs import moved, symmetries
from tests.helpers import (
    all_lots, chance_cuts, chance_machine, chance_term, chance_web_machine, children_by_web, seeded, small_terms,
    with_bit,
)

TREES = Bench.trees()
LEAF = (0, ())
STAR = hung(LEAF, LEAF, times=2)


def unmoved_by_symmetries(term):
    orders = list(symmetries(web_of(TREES, term), tracks_of(term)))
    lots = sorted(all_lots(size_of(term)))
    return [lot for lot in lots if all(moved(lot, order) == lot for order in orders)]


def groups_by_web(term):
    """The groups of point 76, told by the tree rows of the branches of places."""
    children = children_by_web(TREES, term)
    tracks = tracks_of(term)

    def row(place):
        inner = sorted(row(child) for child in children[place])
        return (tuple(place in lot for lot in tracks), len(inner), inner)

    found = []
    for place in children:
        rows = [row(child) for child in children[place]]
        for child, own in zip(children[place], rows):
            group = tuple(other for other, alike in zip(children[place], rows) if alike == own)
            if len(group) > 1 and group[0] == child:
                found.append(group)
    return sorted(found)


class UnmovedTest(unittest.TestCase):
    def test_all_small_trees(self):
        for many, most in ((0, 6), (1, 4), (2, 3)):
            for term in small_terms(TREES, most, many):
                lots = unmoved_lots(term)
                self.assertEqual(lots, unmoved_by_symmetries(term))
                for lot in all_lots(size_of(term)):
                    self.assertIs(is_unmoved(term, lot), lot in lots)
                    self.assertIs(is_unmoved(term, list(lot[::-1])), lot in lots)
                groups = equal_children(term)
                self.assertIsInstance(groups, list)
                self.assertEqual(groups, groups_by_web(term))
                self.assertIs(has_three(term), any(len(group) > 2 for group in groups))

    def test_chance_trees(self):
        chance = seeded(761)
        for _ in range(40):
            term = chance_term(chance, TREES, chance.randint(5, 8), chance.randint(0, 1))
            self.assertEqual(unmoved_lots(term), unmoved_by_symmetries(term))
            self.assertEqual(equal_children(term), groups_by_web(term))

    def test_example(self):
        self.assertEqual(equal_children(STAR), [(1, 2)])
        self.assertIs(is_unmoved(STAR, [1]), False)
        self.assertEqual(unmoved_lots(STAR), [(), (0,), (0, 1, 2), (1, 2)])
        self.assertEqual(unmoved_lots(LEAF), [(), (0,)])

    def test_groups(self):
        term = hung(hung(LEAF, STAR, times=2), LEAF, times=3)
        self.assertEqual(equal_children(term), [(1, 4), (2, 3), (5, 6), (7, 8, 9)])
        self.assertIs(has_three(term), True)
        self.assertIs(has_three(hung(LEAF, STAR, times=2)), False)
        self.assertEqual(equal_children((0, (0, (0, (1,)), (0, (0,))), (0, (1,)))), [])

    def test_great_terms(self):
        wide = hung(LEAF, LEAF, times=199)
        self.assertIs(is_unmoved(wide, tuple(range(1, 200))), True)
        self.assertIs(is_unmoved(wide, tuple(range(2, 200))), False)
        self.assertEqual(equal_children(wide), [tuple(range(1, 200))])
        chain = LEAF
        for _ in range(199):
            chain = (0, LEAF, chain)
        self.assertIs(is_unmoved(chain, [7, 100]), True)
        self.assertEqual(equal_children(chain), [])

    def test_ten_places(self):
        ten = hung(LEAF, LEAF, times=9)
        self.assertEqual(len(unmoved_lots(ten)), 4)
        with self.assertRaises(TooMany) as caught:
            unmoved_lots(hung(ten, LEAF))
        self.assertEqual(caught.exception.which, "places")

    def test_more_tracks_than_machines_have(self):
        seven = (0, (1, 0, 1, 0, 1, 0, 1))
        other = (0, (1, 0, 1, 0, 1, 0, 0))
        self.assertEqual(equal_children(hung(hung(seven, seven, times=2), other)), [(1, 2)])
        self.assertEqual(len(unmoved_lots((0, seven, other))), 4)

    def test_wrong_terms(self):
        unlike = (0, (0, (0, (1,)), (0, (0,))), (0, (1, 0)))
        for term, path in (
            (unlike, (1,)), ((0, LEAF, (0, (0,))), (1,)), ((0, (0, (0, ()), (0, (1,))), 5), (0, 1)), (None, ()),
            ((0, 5, LEAF), (0,)), ((1, LEAF, LEAF), ()), ((0, (1, ()), LEAF), (0,)), ((0, ((0, (2,))), LEAF), (0,)),
            ((0, [0, ()], LEAF), (0,)), ((0, (0, [1]), (0, [1])), (0,)), ((0, (0, (True,)), LEAF), (0,)), ("in", ()),
            ((0, LEAF, None), (1,)),
        ):
            for call in (unmoved_lots, equal_children, has_three, lambda part: is_unmoved(part, [99])):
                with self.assertRaises(BadTerm) as caught:
                    call(term)
                self.assertEqual(caught.exception.path, path)

    def test_wrong_lots(self):
        for lot in ([3], (0, 0), None, 1, "0", (True,), {0}, [-1]):
            with self.assertRaises(BadLot):
                is_unmoved(STAR, lot)


class LotsOfTest(unittest.TestCase):
    def test_all_lots_one_by_one(self):
        chance = seeded(762)
        for _ in range(60):
            machine = chance_web_machine(chance, chance.randint(1, 3), chance_cuts(chance))
            term = chance_term(chance, TREES, chance.randint(1, 6), machine.many - 1)
            lots = sorted(all_lots(size_of(term)))
            fits = [lot for lot in lots if machine.answers(with_bit(term, machine.many - 1, lot))]
            self.assertEqual(list(lots_of(machine, term)), fits)

    def test_it_yields(self):
        single = machine_of(("count", "X", 1, 2, 1), TREES)
        found = lots_of(single, STAR)
        self.assertEqual(next(found), (0,))
        self.assertEqual(list(found), [(1,), (2,)])
        self.assertEqual(len(list(lots_of(single, hung(LEAF, LEAF, times=9)))), 10)

    def test_errors_come_when_the_iteration_begins(self):
        last = Machine(TREES, 0, ((0,),), (((1, 0), (1, 0)),), (1,))
        last_track = Machine(TREES, 1, ((0, 0),), (((1, 0), (1, 0)),), (1,))
        eleven = hung(LEAF, LEAF, times=10)
        single = machine_of(("count", "X", 1, 2, 1), TREES)
        bough = chance_machine(seeded(763), Bench.boughs(), 0, 2)
        for machine, term, kind, attributes in (
            (bough, 5, NotOnTrees, {}), (last, 5, OtherTracks, {}), (last_track, 5, NotWeb, {}),
            (single, hung(eleven, (0, (1,))), BadTerm, {"path": (1,)}), (single, (0, (1,)), BadTerm, {"path": ()}),
            (single, eleven, TooMany, {"which": "places"}),
        ):
            found = lots_of(machine, term)
            with self.assertRaises(kind) as caught:
                next(found)
            self.assertEqual(vars(caught.exception), attributes)


class ParityTest(unittest.TestCase):
    def test_fitting_and_unmoved_lots(self):
        """Point 84: the numbers of fitting lots and of unmoved ones that fit leave the same rest."""
        chance = seeded(764)
        for p in (2, 3):
            seen = 0
            for _ in range(200):
                machine = chance_web_machine(chance, chance.randint(1, 2), chance_cuts(chance))
                leaf = (0, (0,) * (machine.many - 1))
                term = chance_term(chance, TREES, chance.randint(1, 3), machine.many - 1)
                term = hung(term, (0, leaf, leaf), times=p if chance.random() < 0.4 else 0)
                term = hung(term, leaf, times=p) if chance.random() < 0.4 else term
                if size_of(term) > 9 or any(len(group) not in (1, p, p * p) for group in equal_children(term)):
                    continue
                fits = list(lots_of(machine, term))
                still = [lot for lot in fits if is_unmoved(term, lot)]
                self.assertEqual(len(fits) % p, len(still) % p)
                seen += len(fits) > len(still)
                if p == 2:
                    self.assertIs(has_three(term), any(len(group) == 4 for group in equal_children(term)))
            self.assertGreater(seen, 20)


if __name__ == "__main__":
    unittest.main()
