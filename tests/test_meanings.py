import unittest

from lotsayings.errors import BadLot, BadName, NoLot, TooMany
from lotsayings.meanings import fitting, means, number_fitting
from lotsayings.sayings import free_names
from lotsayings.webs import Web, moved
from tests.helpers import all_lots, chance_saying, seeded, true_by_sets

NAMES = ["X", "Y", "x", "y"]


def chance_web(chance, size):
    pairs = [(x, y) for x in range(size) for y in range(size) if x != y]
    return Web(size, [pair for pair in pairs if chance.random() < 0.4])


class MeansTest(unittest.TestCase):
    def test_each_word_by_hand(self):
        web = Web(4, [(0, 1), (0, 2), (1, 2), (2, 3)])
        lots = {"X": (0, 1), "Y": [3, 2], "x": (1,)}
        true = [
            ("in", "x", "X"), ("in", "none", "x"), ("in", ("^", "X", "Y"), "every"), ("to", "X", "Y"),
            ("count", "X", 2, 3, 1), ("count", "every", 1, 1, 3), ("count", "every", 0, 0, 4),
            ("arrows", "X", "Y", 2, 4, 1), ("arrows", "every", "every", 0, 0, 2), ("arrows", "Y", "X", 0, 1, 1),
            ("not", ("to", "Y", "X")), ("some", "y", ("to", "X", "y")), ("all", "y", ("in", "y", ("|", "X", "Y"))),
            ("num", 0, 2, "Z", ("in", "Z", "X")), ("num", 4, 5, "Z", ("in", "Z", "X")),
            ("num", 2, 3, "y", ("to", "X", "y")), ("some", "Z", ("and", ("in", "Z", "X"), ("in", "X", "Z"))),
        ]
        for saying in true:
            self.assertIs(means(saying, web, lots), True, saying)
            self.assertIs(means(("not", saying), web, lots), False, saying)
        self.assertEqual(lots, {"X": (0, 1), "Y": [3, 2], "x": (1,)})

    def test_against_sets(self):
        chance = seeded(10)
        for _ in range(400):
            size = chance.randint(1, 4)
            web = chance_web(chance, size)
            lots = {name: chance.choice(all_lots(size)) for name in NAMES}
            saying = chance_saying(chance, NAMES, chance.randint(0, 3))
            self.assertIs(means(saying, web, lots), bool(true_by_sets(saying, size, web.arrows, lots)), saying)

    def test_place_names(self):
        web = Web(3, ())
        self.assertIs(means(("some", "x", ("in", "x", "none")), web, {}), False)
        self.assertIs(means(("some", "X", ("in", "X", "none")), web, {}), True)
        self.assertIs(means(("num", 3, 4, "x", ("in", "x", "every")), web, {}), True)
        self.assertIs(means(("num", 2, 6, "X", ("in", "X", "every")), web, {}), True)
        self.assertIs(means(("in", "x", "none"), web, {"x": ()}), True)
        self.assertIs(means(("count", "x", 3, 4, 1), web, {"x": [2, 0, 1]}), True)

    def test_renumbering_changes_no_meaning(self):
        chance = seeded(11)
        for _ in range(100):
            size = chance.randint(1, 4)
            web = chance_web(chance, size)
            order = chance.sample(range(size), size)
            lots = {name: chance.choice(all_lots(size)) for name in NAMES}
            other = {name: moved(lot, order) for name, lot in lots.items()}
            saying = chance_saying(chance, NAMES, 2)
            self.assertEqual(means(saying, web, lots), means(saying, web.renumbered(order), other))
            found = [moved(lot, order) for lot in fitting(saying, web, "X", lots)]
            self.assertEqual(sorted(found), fitting(saying, web.renumbered(order), "X", other))

    def test_told_laws(self):
        chance = seeded(12)
        for _ in range(60):
            size = chance.randint(1, 4)
            web = chance_web(chance, size)
            lots = {name: chance.choice(all_lots(size)) for name in NAMES}
            s = chance_saying(chance, NAMES, 1)
            for name in ("X", "x"):
                no_some = means(("not", ("some", name, s)), web, lots)
                self.assertEqual(no_some, means(("all", name, ("not", s)), web, lots))
                rests = [means(("num", a, 3, name, s), web, lots) for a in range(3)]
                self.assertEqual(rests.count(True), 1)
            both = [("some", "X", ("some", "y", s)), ("some", "y", ("some", "X", s))]
            self.assertEqual(means(both[0], web, lots), means(both[1], web, lots))
            self.assertEqual(means(("some", "X", s), web, lots), number_fitting(s, web, "X", lots) > 0)

    def test_errors_in_their_order(self):
        ten = Web(10, ())
        eleven = Web(11, ())
        saying = ("and", ("in", "B", "A"), ("in", "C", "x"))
        self.assertIs(means(("in", "A", "A"), ten, {"A": ()}), True)
        calls = [
            means,
            lambda s, web, lots: fitting(s, web, "?", lots),
            lambda s, web, lots: number_fitting(s, web, 5, lots),
        ]
        for call in calls:
            with self.assertRaises(TooMany) as caught:
                call(saying, eleven, {})
            self.assertEqual(caught.exception.which, "places")
        with self.assertRaises(NoLot) as caught:
            means(saying, ten, {"x": (99,), "B": ()})
        self.assertEqual(caught.exception.name, "A")
        with self.assertRaises(BadLot):
            means(saying, ten, {"A": (10,)})
        with self.assertRaises(NoLot) as caught:
            means(saying, ten, {"A": (), "C": None})
        self.assertEqual(caught.exception.name, "B")
        for lot in ((0, 0), (True,), None, {0}, "0", (10,)):
            with self.assertRaises(BadLot):
                means(("in", "A", "none"), ten, {"A": lot})


class FittingTest(unittest.TestCase):
    def test_against_means(self):
        chance = seeded(13)
        for _ in range(150):
            size = chance.randint(1, 4)
            web = chance_web(chance, size)
            lots = {name: list(chance.choice(all_lots(size))) for name in NAMES}
            saying = chance_saying(chance, NAMES, chance.randint(0, 2))
            name = chance.choice(NAMES + ["Q"])
            tried = sorted(all_lots(size))
            expected = [lot for lot in tried if true_by_sets(saying, size, web.arrows, {**lots, name: lot})]
            self.assertEqual(fitting(saying, web, name, lots), expected)
            self.assertEqual(number_fitting(saying, web, name, lots), len(expected))

    def test_ascending_and_place_names(self):
        web = Web(3, ())
        every = [(), (0,), (0, 1), (0, 1, 2), (0, 2), (1,), (1, 2), (2,)]
        self.assertEqual(fitting(("in", "x", "every"), web, "x", {}), every)
        self.assertEqual(number_fitting(("in", "X", "every"), Web(10, ()), "X", {}), 1024)

    def test_a_lot_for_the_name_is_left_aside(self):
        web = Web(2, [(0, 1)])
        for aside in ((), (9,), None, "?"):
            self.assertEqual(fitting(("to", "X", "Y"), web, "X", {"X": aside, "Y": [1]}), [(0,), (0, 1)])

    def test_errors_in_their_order(self):
        web = Web(2, ())
        saying = ("in", ("&", "A", "B"), "X")
        for name in ("none", "XY", None, 5):
            with self.assertRaises(BadName) as caught:
                fitting(saying, web, name, {})
            self.assertEqual(caught.exception.name, name)
            with self.assertRaises(BadName):
                number_fitting(saying, web, name, {})
        with self.assertRaises(NoLot) as caught:
            fitting(saying, web, "X", {"B": (5,)})
        self.assertEqual(caught.exception.name, "A")
        with self.assertRaises(BadLot):
            number_fitting(saying, web, "X", {"A": (), "B": (5,)})

    def test_each_list_is_new(self):
        web = Web(1, ())
        first = fitting(("in", "X", "every"), web, "X", {})
        first.append(None)
        self.assertEqual(fitting(("in", "X", "every"), web, "X", {}), [(), (0,)])
        self.assertEqual(free_names(("in", "X", "every")), ("X",))


if __name__ == "__main__":
    unittest.main()
