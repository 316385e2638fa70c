import unittest

from lotsayings.errors import BadLot, BadSaying, NoLot
from lotsayings.lots import check_expression, is_name, is_place_name, lot_by, names_in
from tests.helpers import all_lots, chance_expression, lot_as_set, seeded


class NamesTest(unittest.TestCase):
    def test_names(self):
        for value in ("X", "x", "A0", "z99", "Z00", "q7"):
            self.assertIs(is_name(value), True)
            self.assertIs(is_place_name(value), value[0].islower())
        wrong = ["", "X000", "XY", "1", "1X", "X-", "none", "every", "in", "X ", " X", "X\n", "\u00e9", "X\u0661",
                 None, 1, True, ("X",), ["X"], b"X"]
        for value in wrong:
            self.assertIs(is_name(value), False)
            self.assertIs(is_place_name(value), False)


class ExpressionTest(unittest.TestCase):
    def bad(self, path, expression):
        with self.assertRaises(BadSaying) as caught:
            check_expression(expression)
        self.assertEqual(caught.exception.path, path)

    def test_right_ones(self):
        for expression in ("X", "none", "every", ("&", "X", "x"), ("-", ("^", "A1", "none"), ("|", "B", "B"))):
            self.assertIsNone(check_expression(expression))
        deep = "X"
        for _ in range(60):
            deep = ("&", deep, "Y")
        self.assertIsNone(check_expression(deep))

    def test_wrong_ones(self):
        wrong = [
            "", "XY", "Every", 1, None, True, (), ("&",), ("&", "X"), ("&", "X", "Y", "Z"), ("and", "X", "Y"),
            ["&", "X", "Y"], (1, "X", "Y"), (["&"], "X", "Y"), ("", "X", "Y"), ("&|", "X", "Y"), ("none", "X", "Y"),
        ]
        for part in wrong:
            self.bad((), part)
            self.bad((2,), ("&", "X", part))
            self.bad((1, 2), ("^", ("-", "X", part), 5))

    def test_first_wrong_part(self):
        self.bad((), ("?", 5, 5))
        self.bad((1,), ("&", 5, 6))
        self.bad((1, 1), ("&", ("&", 5, "X"), 6))

    def test_names_in(self):
        self.assertEqual(names_in("none"), ())
        self.assertEqual(names_in(("&", "x", ("|", "Z1", ("-", "every", ("^", "A", "x"))))), ("A", "Z1", "x"))


class LotByTest(unittest.TestCase):
    def test_against_sets(self):
        chance = seeded(6)
        for _ in range(200):
            size = chance.randint(1, 5)
            lots = {name: chance.choice(all_lots(size)) for name in ("X", "Y", "z")}
            expression = chance_expression(chance, ["X", "Y", "z"])
            self.assertEqual(lot_by(expression, size, lots), tuple(sorted(lot_as_set(expression, size, lots))))

    def test_kinds_of_lots(self):
        lots = {"X": [2, 0], "W": None}
        self.assertEqual(lot_by("X", 3, lots), (0, 2))
        self.assertEqual(lots, {"X": [2, 0], "W": None})
        self.assertEqual(lot_by("every", 200, {}), tuple(range(200)))
        self.assertEqual(lot_by("none", 1, {}), ())

    def test_errors_from_left_to_right(self):
        lots = {"X": (0,), "Y": (9,), "Z": "?"}
        with self.assertRaises(NoLot) as caught:
            lot_by(("&", "X", ("&", "B", "A")), 3, lots)
        self.assertEqual(caught.exception.name, "B")
        with self.assertRaises(NoLot) as caught:
            lot_by(("&", "none", ("&", "A", "Y")), 3, lots)
        self.assertEqual(caught.exception.name, "A")
        for expression in ("Y", "Z", ("&", "Y", "A"), ("|", "every", ("-", "Z", "A"))):
            with self.assertRaises(BadLot):
                lot_by(expression, 3, lots)
        for lot in ((0, 0), (True,), None, (3,), {0}):
            with self.assertRaises(BadLot):
                lot_by("X", 3, {"X": lot})


if __name__ == "__main__":
    unittest.main()
