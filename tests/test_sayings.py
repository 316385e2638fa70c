import unittest
from math import lcm

from lotsayings.errors import BadName, BadNumber, BadSaying, TooMany
from lotsayings.lots import names_in
from lotsayings.sayings import (
    both_of, check_saying, counts_of, either_of, free_names, is_plain, nest_of, put_in,
)
from lotsayings.webs import Web
from tests.helpers import all_lots, chance_expression, chance_saying, lot_as_set, seeded, true_by_sets

XY = ("in", "X", "Y")


class CheckTest(unittest.TestCase):
    def bad(self, path, saying):
        with self.assertRaises(BadSaying) as caught:
            check_saying(saying)
        self.assertEqual(caught.exception.path, path)

    def test_right_ones(self):
        right = [
            XY, ("to", "every", "none"), ("count", "X", 0, 0, 1), ("count", "X", 9, 4, 6),
            ("arrows", "X", "Y", 9, 4, 6), ("not", XY), ("and", XY, XY), ("or", XY, XY), ("some", "X", XY),
            ("all", "x", XY), ("num", 0, 2, "X", XY), ("num", 5, 6, "x", XY),
        ]
        for saying in right:
            self.assertIsNone(check_saying(saying))
        deep = XY
        for _ in range(60):
            deep = ("not", deep)
        self.assertIsNone(check_saying(deep))

    def test_wrong_ones(self):
        wrong = [
            None, 1, "X", "in", (), ("in",), ("in", "X"), ("in", "X", "Y", "Z"), ["in", "X", "Y"], ("IN", "X", "Y"),
            ("&", "X", "Y"), ("not",), ("not", XY, XY), ("and", XY), ("some", XY), ("all", "X"), ("num", 0, 2, XY),
            ("count", "X", 0, 1), ("arrows", "X", "Y", 0, 1), (1, "X", "Y"), (["in"], "X", "Y"), (None,),
        ]
        for part in wrong:
            self.bad((), part)
            self.bad((1,), ("not", part))
            self.bad((2,), ("and", XY, part))
            self.bad((2, 1), ("some", "X", ("or", part, 5)))
            self.bad((4,), ("num", 1, 2, "X", part))

    def test_parts_from_left_to_right(self):
        self.bad((1,), ("in", 5, 5))
        self.bad((2,), ("to", "X", ("?", 5, 5)))
        self.bad((2, 1), ("to", "X", ("&", 5, 5)))
        self.bad((1, 1, 2), ("and", ("not", ("in", "X", "?")), 5))
        self.bad((1,), ("some", "every", 5))
        self.bad((1,), ("all", "none", XY))
        self.bad((1,), ("some", 5, XY))
        self.bad((1,), ("some", ("X",), XY))
        self.bad((2,), ("all", "x", "X"))

    def test_numbers(self):
        self.bad((1,), ("count", 5, 9, 9, 9))
        self.bad((3,), ("count", "X", 99, 5, 7))
        self.bad((4,), ("count", "X", 99, 4, 7))
        self.bad((2,), ("count", "X", 10, 4, 6))
        self.bad((2,), ("arrows", "X", 5, 99, 99, 99))
        self.bad((4,), ("arrows", "X", "Y", 99, 5, 7))
        self.bad((5,), ("arrows", "X", "Y", 99, 4, 0))
        self.bad((3,), ("arrows", "X", "Y", 1, 0, 1))
        self.bad((2,), ("num", 9, 7, 5, 5))
        self.bad((2,), ("num", 0, 1, "X", XY))
        self.bad((1,), ("num", 2, 2, 5, 5))
        self.bad((1,), ("num", -1, 2, "X", XY))
        self.bad((3,), ("num", 1, 2, 5, 5))
        self.bad((4,), ("num", 1, 2, "X", 5))

    def test_bounds(self):
        for t in range(-1, 6):
            for d in range(0, 8):
                for a in range(-1, 12):
                    for head in (("count", "X"), ("arrows", "X", "Y")):
                        saying = head + (a, t, d)
                        at = len(head)
                        if not 0 <= t <= 4:
                            self.bad((at + 1,), saying)
                        elif not 1 <= d <= 6:
                            self.bad((at + 2,), saying)
                        elif not 0 <= a < t + d:
                            self.bad((at,), saying)
                        else:
                            self.assertIsNone(check_saying(saying))

    def test_true_and_false_are_no_integers(self):
        self.bad((2,), ("count", "X", True, 2, 3))
        self.bad((3,), ("count", "X", 0, True, 3))
        self.bad((4,), ("count", "X", 0, 1, True))
        self.bad((3,), ("arrows", "X", "Y", False, 1, 3))
        self.bad((1,), ("num", True, 2, "X", XY))
        self.bad((2,), ("num", 0, True, "X", XY))


class FactsTest(unittest.TestCase):
    def test_free_names(self):
        self.assertEqual(free_names(("in", ("&", "x", "B"), ("|", "A", "none"))), ("A", "B", "x"))
        self.assertEqual(free_names(("and", XY, ("some", "X", ("to", "X", "Z")))), ("X", "Y", "Z"))
        self.assertEqual(free_names(("num", 0, 2, "X", ("all", "Y", XY))), ())
        self.assertEqual(free_names(("some", "Q", ("count", "every", 0, 1, 1))), ())
        self.assertEqual(free_names(("some", "X", ("or", XY, ("some", "Y", XY)))), ("Y",))

    def test_counts_of(self):
        self.assertEqual(counts_of(XY), 1)
        self.assertEqual(counts_of(("and", ("count", "X", 0, 1, 4), ("arrows", "X", "X", 0, 2, 6))), 12)
        self.assertEqual(counts_of(("num", 0, 5, "X", ("count", "X", 0, 0, 3))), 3)
        self.assertEqual(counts_of(("not", ("some", "X", ("count", "X", 0, 4, 1)))), 1)

    def test_is_plain(self):
        self.assertIs(is_plain(XY), True)
        self.assertIs(is_plain(("not", ("and", XY, ("num", 0, 2, "X", XY)))), False)
        self.assertIs(is_plain(("all", "X", ("or", XY, XY))), True)

    def test_nest_of(self):
        self.assertEqual(nest_of(("in", ("&", "X", ("&", "X", "Y")), "Y")), 0)
        self.assertEqual(nest_of(("not", XY)), 1)
        self.assertEqual(nest_of(("and", XY, ("some", "X", ("num", 0, 2, "Y", XY)))), 3)

    def test_facts_of_chance_sayings(self):
        chance = seeded(7)
        for _ in range(50):
            one = chance_saying(chance, ["X", "Y", "x"], 2)
            two = chance_saying(chance, ["X", "Y", "x"], 1)
            both = ("and", one, two)
            self.assertEqual(counts_of(both), lcm(counts_of(one), counts_of(two)))
            self.assertEqual(free_names(both), tuple(sorted(set(free_names(one) + free_names(two)))))
            self.assertEqual(counts_of(put_in(one, "X", ("-", "Y", "x"))), counts_of(one))


class JoinedTest(unittest.TestCase):
    def test_both_and_either(self):
        two, three = ("to", "X", "Y"), ("not", XY)
        self.assertEqual(both_of(XY), XY)
        self.assertEqual(either_of(XY), XY)
        self.assertEqual(both_of(XY, two), ("and", XY, two))
        self.assertEqual(both_of(XY, two, three), ("and", XY, ("and", two, three)))
        self.assertEqual(either_of(XY, two, three, XY), ("or", XY, ("or", two, ("or", three, XY))))
        for call in (both_of, either_of):
            with self.assertRaises(BadNumber) as caught:
                call()
            self.assertEqual(caught.exception.which, "sayings")


class PutInTest(unittest.TestCase):
    def test_plain_replacing(self):
        given = ("and", XY, ("some", "X", XY))
        self.assertEqual(put_in(given, "X", "none"), ("and", ("in", "none", "Y"), ("some", "X", XY)))
        self.assertEqual(put_in(("in", ("&", "X", "X"), "X"), "X", "Y"), ("in", ("&", "Y", "Y"), "Y"))
        self.assertEqual(put_in(XY, "Z", ("&", "X", "Y")), XY)

    def test_bound_names_give_way(self):
        self.assertEqual(
            put_in(("some", "X", XY), "Y", ("&", "X", "every")),
            ("some", "Z", ("in", "Z", ("&", "X", "every"))),
        )
        self.assertEqual(put_in(("num", 0, 2, "x", ("to", "x", "Y")), "Y", "x"), ("num", 0, 2, "z", ("to", "z", "x")))
        not_beneath = ("some", "X", ("in", "X", "X"))
        self.assertEqual(put_in(not_beneath, "Y", "X"), not_beneath)

    def test_order_of_fresh_names(self):
        saying = ("some", "A", ("and", ("some", "B", ("in", "A", ("|", "B", "Y"))), ("some", "A", ("in", "A", "Y"))))
        expected = (
            "some", "Z",
            ("and", ("some", "Z0", ("in", "Z", ("|", "Z0", ("&", "A", "B")))),
             ("some", "Z1", ("in", "Z1", ("&", "A", "B")))),
        )
        self.assertEqual(put_in(saying, "Y", ("&", "A", "B")), expected)

    def test_rebound_names_stay(self):
        saying = ("all", "A", ("and", ("in", "A", "Y"), ("some", "A", ("in", "A", "none"))))
        expected = ("all", "Z", ("and", ("in", "Z", "A"), ("some", "A", ("in", "A", "none"))))
        self.assertEqual(put_in(saying, "Y", "A"), expected)

    def test_names_that_stand_already(self):
        saying = ("some", "X", ("and", XY, ("some", "Z", ("in", "Z0", "Z"))))
        expected = ("some", "Z1", ("and", ("in", "Z1", "X"), ("some", "Z", ("in", "Z0", "Z"))))
        self.assertEqual(put_in(saying, "Y", "X"), expected)
        self.assertEqual(
            put_in(("some", "X", XY), "Y", ("&", "X", "Z")), ("some", "Z0", ("in", "Z0", ("&", "X", "Z")))
        )
        self.assertEqual(
            put_in(("some", "Z", ("in", "Z", "Y")), "Y", "Z"), ("some", "Z0", ("in", "Z0", "Z"))
        )
        self.assertEqual(
            put_in(("some", "x", ("some", "X", ("and", ("in", "x", "X"), XY))), "Y", ("|", "x", "X")),
            ("some", "z", ("some", "Z", ("and", ("in", "z", "Z"), ("in", "Z", ("|", "x", "X"))))),
        )

    def crowded(self, names):
        return ("and", ("some", "X", XY), both_of(*[("in", name, "none") for name in names]))

    def test_last_fresh_name_and_none_left(self):
        names = ["Z"] + ["Z" + str(k) for k in range(99)]
        self.assertEqual(put_in(self.crowded(names), "Y", "X")[1], ("some", "Z99", ("in", "Z99", "X")))
        with self.assertRaises(TooMany) as caught:
            put_in(self.crowded(names + ["Z99"]), "Y", "X")
        self.assertEqual(caught.exception.which, "names")
        self.assertEqual(put_in(self.crowded(names + ["Z99"]), "Y", "A")[1], ("some", "X", ("in", "X", "A")))

    def test_errors_in_their_order(self):
        with self.assertRaises(BadSaying) as caught:
            put_in(("not", ("in", "X", 5)), 5, 5)
        self.assertEqual(caught.exception.path, (1, 2))
        for name in ("every", 5, "XX", None):
            with self.assertRaises(BadName) as caught:
                put_in(XY, name, 5)
            self.assertEqual(caught.exception.name, name)
        with self.assertRaises(BadSaying) as caught:
            put_in(XY, "X", ("&", "X", "?"))
        self.assertEqual(caught.exception.path, (2,))

    def test_meaning_and_free_names(self):
        chance = seeded(8)
        names = ["X", "Y", "Z", "x"]
        for _ in range(150):
            saying = chance_saying(chance, names, chance.randint(0, 2))
            expression = chance_expression(chance, names)
            name = chance.choice(names)
            made = put_in(saying, name, expression)
            check_saying(made)
            free = set(free_names(saying))
            told = free - {name} | (set(names_in(expression)) if name in free else set())
            self.assertEqual(free_names(made), tuple(sorted(told)))
            size = chance.randint(1, 3)
            pairs = [(x, y) for x in range(size) for y in range(size) if x != y]
            web = Web(size, [pair for pair in pairs if chance.random() < 0.5])
            lots = {other: chance.choice(all_lots(size)) for other in names}
            inner = {**lots, name: tuple(lot_as_set(expression, size, lots))}
            self.assertEqual(
                true_by_sets(made, size, web.arrows, lots), true_by_sets(saying, size, web.arrows, inner)
            )


if __name__ == "__main__":
    unittest.main()
