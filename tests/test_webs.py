import unittest
from itertools import permutations

from lotsayings.errors import BadLot, BadNumber, BadOrder, BadWeb, TooMany
from lotsayings.webs import Web, equal_by, lot_of, moved, symmetries
from tests.helpers import all_lots, seeded


def by_hand(web, tracks, other, other_tracks):
    found = []
    for order in permutations(range(web.size)):
        same = web.renumbered(order) == other
        if same and all(moved(lot, order) == lot_of(goal, web.size) for lot, goal in zip(tracks, other_tracks)):
            found.append(order)
    return found


class WebTest(unittest.TestCase):
    def bad(self, which, size, arrows):
        with self.assertRaises(BadWeb) as caught:
            Web(size, arrows)
        self.assertEqual(caught.exception.which, which)

    def test_sizes(self):
        self.assertEqual(len(Web(1, ())), 1)
        self.assertEqual(len(Web(200, [(199, 0)])), 200)
        for size in (0, 201, -1, True, None, "3"):
            self.bad("size", size, ())

    def test_size_is_told_first(self):
        self.bad("size", 0, None)
        self.bad("size", 201, [(0, 0)])

    def test_arrows(self):
        given = [(2, 0), (0, 1), (1, 0)]
        web = Web(3, given)
        self.assertEqual(web.arrows, ((0, 1), (1, 0), (2, 0)))
        self.assertIsInstance(web.arrows, tuple)
        self.assertEqual(given, [(2, 0), (0, 1), (1, 0)])
        self.assertEqual(web, Web(3, tuple(given)))
        self.assertEqual(list(web), [(0, 1), (1, 0), (2, 0)])
        self.assertEqual(web.size, 3)

    def test_wrong_arrows(self):
        wrong = [
            [(0, 0)], [(0, 1), (0, 1)], [(0, 3)], [(3, 0)], [(-1, 0)], [(0, -1)], [[0, 1]],
            [(0, 1, 2)], [(0,)], [(0, True)], [(False, 1)], None, {(0, 1)}, "01", [0], [("0", 1)], [(0, [1])],
        ]
        for arrows in wrong:
            self.bad("arrows", 3, arrows)

    def test_equality(self):
        self.assertEqual(Web(2, [(0, 1)]), Web(2, [(0, 1)]))
        self.assertNotEqual(Web(2, [(0, 1)]), Web(2, [(1, 0)]))
        self.assertNotEqual(Web(2, ()), Web(3, ()))
        self.assertIs(Web(2, ()) == (2, ()), False)
        self.assertIs(Web(2, ()) == None, False)  # noqa: E711

    def test_arrow_and_sent(self):
        web = Web(4, [(0, 3), (0, 1), (3, 0)])
        for x in range(4):
            self.assertEqual(web.sent(x), tuple(y for y in range(4) if (x, y) in web.arrows))
            for y in range(4):
                self.assertIs(web.arrow(x, y), (x, y) in web.arrows)
        for x, y in [(4, 0), (0, 4), (-1, 0), (0, -1), (True, 0), (0, False), (None, 0)]:
            with self.assertRaises(BadNumber) as caught:
                web.arrow(x, y)
            self.assertEqual(caught.exception.which, "place")
        for x in (4, -1, True, "0"):
            with self.assertRaises(BadNumber) as caught:
                web.sent(x)
            self.assertEqual(caught.exception.which, "place")

    def test_renumbered(self):
        web = Web(3, [(0, 1), (0, 2)])
        order = [2, 0, 1]
        self.assertEqual(web.renumbered(order).arrows, ((1, 0), (1, 2)))
        self.assertEqual(order, [2, 0, 1])
        self.assertEqual(web.renumbered((0, 1, 2)), web)
        for order in ([0, 1], [0, 1, 1], [0, 1, 3], (), None, "012", [0, True, 2], {0, 1, 2}, [0, 1, 2, 3]):
            with self.assertRaises(BadOrder):
                web.renumbered(order)

    def test_of_lot(self):
        web = Web(4, [(0, 1), (1, 3), (3, 0), (2, 3)])
        self.assertEqual(web.of_lot([3, 0]), Web(2, [(1, 0)]))
        self.assertEqual(web.of_lot((1, 2, 3)), Web(3, [(0, 2), (1, 2)]))
        for lot in ((), [], (4,), (0, 0), None, "0", (True,)):
            with self.assertRaises(BadLot):
                web.of_lot(lot)


class LotTest(unittest.TestCase):
    def test_lot_of(self):
        given = [3, 0, 2]
        self.assertEqual(lot_of(given, 4), (0, 2, 3))
        self.assertEqual(given, [3, 0, 2])
        self.assertEqual(lot_of((), 1), ())
        for value in ([4], [-1], [0, 0], [True], [0, False], None, 3, "0", {0}, [None], [[0]]):
            with self.assertRaises(BadLot):
                lot_of(value, 4)

    def test_moved(self):
        self.assertEqual(moved((0, 2), (2, 1, 0)), (0, 2))
        self.assertEqual(moved([1], [1, 2, 0]), (0,))
        self.assertEqual(moved([0], [1, 2, 0]), (2,))
        self.assertEqual(moved((), [0]), ())

    def test_moved_errors(self):
        for order in ((), [], (1,), (0, 0), (0, True), None, "01"):
            with self.assertRaises(BadOrder):
                moved((7,), order)
        for lot in ((2,), (0, 0), None, (True,)):
            with self.assertRaises(BadLot):
                moved(lot, (1, 0))


class RenumberingTest(unittest.TestCase):
    def test_against_all_renumberings(self):
        chance = seeded(1)
        for _ in range(60):
            size = chance.randint(1, 5)
            pairs = [(x, y) for x in range(size) for y in range(size) if x != y]
            web = Web(size, [pair for pair in pairs if chance.random() < 0.5])
            tracks = [chance.choice(all_lots(size)) for _ in range(chance.randint(0, 2))]
            order = chance.sample(range(size), size)
            other = web.renumbered(order)
            goals = [moved(lot, order) for lot in tracks]
            if chance.random() < 0.3:
                other = Web(size, [pair for pair in pairs if chance.random() < 0.5])
            found = by_hand(web, tracks, other, goals)
            self.assertEqual(equal_by(web, tracks, other, goals), found[0] if found else None)
            self.assertEqual(list(symmetries(web, tracks)), by_hand(web, tracks, web, tracks))

    def test_least_one(self):
        self.assertEqual(equal_by(Web(4, ()), [], Web(4, ()), ()), (0, 1, 2, 3))
        self.assertEqual(equal_by(Web(3, ()), [(0,)], Web(3, ()), [[2]]), (1, 2, 0))
        self.assertIsNone(equal_by(Web(2, ()), [(0,)], Web(2, ()), [(0, 1)]))
        self.assertIsNone(equal_by(Web(2, ()), [()], Web(2, ()), []))
        self.assertIsNone(equal_by(Web(2, ()), [()], Web(3, ()), [()]))

    def test_symmetries_are_a_group(self):
        web = Web(5, [(0, 1), (0, 2), (0, 3), (3, 4)])
        found = list(symmetries(web, ()))
        self.assertEqual(found, [(0, 1, 2, 3, 4), (0, 2, 1, 3, 4)])
        self.assertEqual(list(symmetries(web, [[1]])), [(0, 1, 2, 3, 4)])
        turning = Web(4, [(0, 1), (1, 2), (2, 3), (3, 0)])
        self.assertEqual(len(list(symmetries(turning, ()))), 4)

    def test_webs_of_eight_and_nine_places(self):
        eight = Web(8, ())
        nine = Web(9, ())
        self.assertEqual(equal_by(eight, (), eight, ()), tuple(range(8)))
        self.assertEqual(next(symmetries(eight, ())), tuple(range(8)))
        full = Web(8, [(x, y) for x in range(8) for y in range(8) if x != y])
        self.assertEqual(sum(1 for _ in symmetries(full, ())), 40320)
        for web, other in [(nine, nine), (nine, eight), (eight, nine)]:
            with self.assertRaises(TooMany) as caught:
                equal_by(web, (), other, ())
            self.assertEqual(caught.exception.which, "places")

    def test_errors_in_their_order(self):
        nine = Web(9, ())
        for tracks in (None, [(9,)], [None], "x", [(0, 0)], [(True,)]):
            with self.assertRaises(BadLot):
                equal_by(nine, tracks, nine, ())
            with self.assertRaises(BadLot):
                equal_by(nine, (), nine, tracks)
            waiting = symmetries(nine, tracks)
            with self.assertRaises(BadLot):
                next(waiting)
        waiting = symmetries(nine, ())
        with self.assertRaises(TooMany) as caught:
            next(waiting)
        self.assertEqual(caught.exception.which, "places")


if __name__ == "__main__":
    unittest.main()
