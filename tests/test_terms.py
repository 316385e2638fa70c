import unittest
from itertools import islice

from lotsayings.benches import Bench
from lotsayings.errors import BadLot, BadNumber, BadTerm
from lotsayings.terms import (
    all_terms, bare, changed, check_term, colour, hung, is_narrow, labels_of, leaf_at, many_of, put, size_of,
    tracks_of, web_of,
)
from lotsayings.webs import Web, equal_by
from tests.helpers import NAMED, WIDE, chance_context, chance_term, seeded

TREES = Bench.trees()
LEAF = (0, ())
ONE = (0, (1,))


def built_by_hand(bench, term):
    """Size, arrows, labels, straight from point 5."""
    if len(term) == 2:
        return 1, set(), [term[0]]
    j, t, u = term
    size, arrows, labels = built_by_hand(bench, t)
    more, others, other_labels = built_by_hand(bench, u)
    fore, back, left, right = bench.joins[j]
    arrows = arrows | {(x + size, y + size) for x, y in others}
    for x, a in enumerate(labels):
        for y, b in enumerate(other_labels):
            if (a, b) in fore:
                arrows.add((x, y + size))
            if (a, b) in back:
                arrows.add((y + size, x))
    return size + more, arrows, [left[a] for a in labels] + [right[b] for b in other_labels]


class CheckTermTest(unittest.TestCase):
    def bad(self, path, term, many=0, hole=False, bench=TREES):
        with self.assertRaises(BadTerm) as caught:
            check_term(bench, term, many, hole=hole)
        self.assertEqual(caught.exception.path, path)

    def test_right_terms(self):
        self.assertIsNone(check_term(TREES, LEAF, 0))
        self.assertIsNone(check_term(TREES, (0, ONE, (0, (0,))), 1))
        self.assertIsNone(check_term(WIDE, (2, (2, (0, 1)), (0, (1, 1))), 2))
        self.assertIsNone(check_term(TREES, None, 3, hole=True))
        self.assertIsNone(check_term(TREES, (0, (0, LEAF, None), LEAF), 0, hole=True))
        chance = seeded(2)
        for bench in list(NAMED.values()) + [WIDE]:
            for size in (1, 2, 9, 200):
                self.assertIsNone(check_term(bench, chance_term(chance, bench, size, 2), 2))
                self.assertIsNone(check_term(bench, chance_context(chance, bench, size, 2), 2, hole=True))

    def test_wrong_parts(self):
        wrong = [
            None, 0, "t", [], (), (0,), [0, ()], (1, ()), (True, ()), (False, ()), (0, []), (0, (0,)), (0, None),
            (-1, ()), (1, LEAF, LEAF), (-1, LEAF, LEAF), (False, LEAF, LEAF), (0, LEAF, LEAF, LEAF),
            [0, LEAF, LEAF], ("0", LEAF, LEAF), (None, LEAF, LEAF), ([0], ()), (0, ((),)),
        ]
        for part in wrong:
            self.bad((), part)
            self.bad((1, 0), (0, LEAF, (0, part, LEAF)))
            self.bad((0, 1), (0, (0, LEAF, part), LEAF))

    def test_bits(self):
        for bits in ((2,), (-1,), (True,), (0, 0), (), [1], ("1",), (None,)):
            self.bad((), (0, bits), 1)
            self.bad((1,), (0, ONE, (0, bits)), 1)

    def test_first_wrong_part(self):
        self.bad((), (7, None, None))
        self.bad((0,), (0, (7, 0, 0), None))
        self.bad((0,), (0, None, (7, 0, 0)))
        self.bad((0, 1), (0, (0, LEAF, 5), (0, 5, 5)))
        self.bad((1, 0), (0, LEAF, (0, (0, LEAF, LEAF, 1), 5)))

    def test_holes(self):
        self.bad((), LEAF, hole=True)
        self.bad((), (0, None, None), hole=True)
        self.bad((), (0, (0, None, LEAF), (0, LEAF, None)), hole=True)
        self.bad((0,), (0, None, LEAF))
        self.bad((1,), (0, None, 5), hole=True)
        self.bad((1, 1), (0, None, (0, None, 5)), hole=True)
        self.bad((0,), (0, (1, ()), LEAF), hole=True)

    def test_deep(self):
        deep = hung(LEAF, LEAF, times=199)
        self.assertIsNone(check_term(TREES, deep, 0))
        self.bad((0,) * 199, put(hung(None, LEAF, times=199), (1, ())))
        lying = LEAF
        for _ in range(199):
            lying = (0, LEAF, lying)
        self.assertIsNone(check_term(TREES, lying, 0))


class BuildTest(unittest.TestCase):
    def test_against_point_five(self):
        chance = seeded(3)
        for bench in list(NAMED.values()) + [WIDE]:
            for _ in range(40):
                term = chance_term(chance, bench, chance.randint(1, 12), 2)
                size, arrows, labels = built_by_hand(bench, term)
                web = web_of(bench, term)
                self.assertEqual(web, Web(size, list(arrows)))
                self.assertEqual(labels_of(bench, term), tuple(labels))
                self.assertIsInstance(labels_of(bench, term), tuple)
                self.assertEqual(size_of(term), size)

    def test_tracks(self):
        term = (0, (0, (0, (1, 0)), (0, (1, 1))), (0, (0, 1)))
        self.assertEqual(tracks_of(term), ((0, 1), (1, 2)))
        self.assertEqual(many_of(term), 2)
        self.assertEqual(tracks_of(LEAF), ())
        self.assertEqual(tracks_of((0, (0,))), ((),))
        self.assertEqual(many_of(LEAF), 0)

    def test_trees(self):
        star = hung(LEAF, LEAF, times=199)
        self.assertEqual(web_of(TREES, star).arrows, tuple((0, y) for y in range(1, 200)))
        row = LEAF
        for _ in range(199):
            row = (0, LEAF, row)
        self.assertEqual(web_of(TREES, row).arrows, tuple((x, x + 1) for x in range(199)))
        self.assertEqual(labels_of(TREES, row), (0,) + (1,) * 199)
        self.assertEqual(size_of(row), 200)

    def test_other_named_benches(self):
        star = hung(LEAF, LEAF, times=3)
        both = sorted([(0, y) for y in range(1, 4)] + [(y, 0) for y in range(1, 4)])
        self.assertEqual(web_of(Bench.boughs(), star).arrows, tuple(both))
        narrow = hung(LEAF, LEAF, times=199)
        self.assertEqual(web_of(Bench.narrow_rows(), narrow).arrows, tuple((x, x + 1) for x in range(199)))
        tied = LEAF
        for _ in range(4):
            tied = (1, tied, LEAF)
        every = tuple((x, y) for x in range(5) for y in range(5) if x != y)
        self.assertEqual(web_of(Bench.cotrees(), tied).arrows, every)
        self.assertEqual(web_of(Bench.cotrees(), star).arrows, ())

    def test_every_rooted_tree_comes_up(self):
        for size, many in ((1, 1), (2, 1), (3, 2), (4, 4), (5, 9), (6, 20)):
            found = []
            for term in all_terms(TREES, size):
                web = web_of(TREES, term)
                goals = [y for _, y in web.arrows]
                self.assertEqual(sorted(goals), list(range(1, size)))
                if all(equal_by(web, (), other, ()) is None for other in found):
                    found.append(web)
            self.assertEqual(len(found), many)

    def test_wide_bench_of_200_places(self):
        term = chance_term(seeded(4), WIDE, 200, 1)
        size, arrows, labels = built_by_hand(WIDE, term)
        self.assertEqual(web_of(WIDE, term).arrows, tuple(sorted(arrows)))
        self.assertEqual(labels_of(WIDE, term), tuple(labels))


class ChangeTest(unittest.TestCase):
    def test_is_narrow(self):
        self.assertIs(is_narrow(LEAF), True)
        self.assertIs(is_narrow(hung(LEAF, LEAF, times=199)), True)
        self.assertIs(is_narrow((0, LEAF, (0, LEAF, LEAF))), False)
        self.assertIs(is_narrow((0, (0, LEAF, (0, LEAF, LEAF)), LEAF)), False)

    def test_colour_and_bare(self):
        term = (0, (0, LEAF, LEAF), LEAF)
        given = [[2, 0], (1,)]
        coloured = colour(term, given)
        self.assertEqual(coloured, (0, (0, (0, (1, 0)), (0, (0, 1))), (0, (1, 0))))
        self.assertEqual(given, [[2, 0], (1,)])
        self.assertEqual(tracks_of(coloured), ((0, 2), (1,)))
        self.assertEqual(bare(coloured), term)
        self.assertEqual(colour(coloured, ()), term)
        self.assertEqual(colour((2, ()), [(0,)]), (2, (1,)))
        for tracks in (None, "", [(3,)], [(0, 0)], [None], [(True,)], {(0,): 1}, [(0,), "1"]):
            with self.assertRaises(BadLot):
                colour(term, tracks)

    def test_put(self):
        context = (0, LEAF, (0, None, LEAF))
        self.assertEqual(put(context, (0, LEAF, LEAF)), (0, LEAF, (0, (0, LEAF, LEAF), LEAF)))
        self.assertEqual(put(context, context), (0, LEAF, (0, context, LEAF)))
        self.assertEqual(put(None, LEAF), LEAF)
        self.assertEqual(put(context, None), context)
        self.assertIsNone(put(None, None))
        deep = hung(None, LEAF, times=150)
        self.assertEqual(put(deep, hung(LEAF, LEAF, times=49)), hung(LEAF, LEAF, times=199))

    def test_places_of_a_part_follow_one_another(self):
        chance = seeded(5)
        for bench in list(NAMED.values()) + [WIDE]:
            context = chance_context(chance, bench, 6, 1)
            term = chance_term(chance, bench, 5, 1)
            whole = web_of(bench, put(context, term))
            part = web_of(bench, term)
            self.assertTrue(any(whole.of_lot(range_lot(k, 5)) == part for k in range(7)))

    def test_leaf_at_and_changed(self):
        term = (0, (0, (0, (1,)), (0, (0,))), (0, (1,)))
        self.assertEqual([leaf_at(term, x) for x in range(3)], [(0, (1,)), (0, (0,)), (0, (1,))])
        self.assertEqual(changed(term, 1, (1,)), (0, (0, (0, (1,)), (0, (1,))), (0, (1,))))
        self.assertEqual(leaf_at((2, ()), 0), (2, ()))
        self.assertEqual(changed((2, (1,)), 0, (0,)), (2, (0,)))
        self.assertEqual(changed(term, 0, (0,))[1][1], (0, (0,)))
        deep = hung(LEAF, LEAF, times=199)
        self.assertEqual(size_of(changed(deep, 199, ())), 200)
        for place in (3, -1, True, None):
            for call in (lambda: leaf_at(term, place), lambda: changed(term, place, (1,))):
                with self.assertRaises(BadNumber) as caught:
                    call()
                self.assertEqual(caught.exception.which, "place")

    def test_hung(self):
        u = (0, LEAF, LEAF)
        self.assertEqual(hung(LEAF, u), (0, LEAF, u))
        self.assertEqual(hung(LEAF, u, times=0), LEAF)
        self.assertEqual(hung(LEAF, u, times=2), (0, (0, LEAF, u), u))
        self.assertEqual(size_of(hung(LEAF, LEAF, times=200)), 201)
        for times in (201, -1, True, None, "1"):
            with self.assertRaises(BadNumber) as caught:
                hung(LEAF, u, times=times)
            self.assertEqual(caught.exception.which, "times")


def range_lot(start, many):
    return tuple(range(start, start + many))


def listed(bench, size):
    """All terms in the told order, by lists."""
    if size == 1:
        return [(label, ()) for label in bench.starts]
    found = []
    for j in range(len(bench.joins)):
        for less in range(1, size):
            for left in listed(bench, less):
                for right in listed(bench, size - less):
                    found.append((j, left, right))
    return found


class AllTermsTest(unittest.TestCase):
    def test_order(self):
        for bench in (TREES, Bench.cotrees()):
            for size in range(1, 7):
                found = list(all_terms(bench, size))
                self.assertEqual(found, listed(bench, size))
                self.assertEqual(len(set(found)), len(found))
        for size in range(1, 5):
            self.assertEqual(list(all_terms(WIDE, size)), listed(WIDE, size))

    def test_numbers(self):
        self.assertEqual([len(list(all_terms(TREES, size))) for size in range(1, 7)], [1, 1, 2, 5, 14, 42])
        self.assertEqual(len(list(all_terms(Bench.cotrees(), 6))), 42 * 32)

    def test_first_ones_of_a_wide_bench(self):
        first = list(islice(all_terms(WIDE, 6), 3))
        comb = (0, (0, ()), (0, ()))
        for _ in range(3):
            comb = (0, (0, ()), comb)
        self.assertEqual(first[0], (0, (0, ()), comb))
        self.assertTrue(all(size_of(term) == 6 for term in first))

    def test_error_when_the_first_is_asked_for(self):
        for size in (0, 7, -1, True, None):
            waiting = all_terms(TREES, size)
            with self.assertRaises(BadNumber) as caught:
                next(waiting)
            self.assertEqual(caught.exception.which, "size")


if __name__ == "__main__":
    unittest.main()
