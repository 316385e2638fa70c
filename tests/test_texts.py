import unittest

from lotsayings.errors import BadNumber, BadText
from lotsayings.sayings import both_of
from lotsayings.texts import read_saying, written
from tests.helpers import chance_saying, seeded


class TextsTest(unittest.TestCase):
    def bad(self, text, at, which=None):
        with self.assertRaises(BadText) as caught:
            read_saying(text)
        self.assertEqual(caught.exception.at, at, text)
        cause = caught.exception.__cause__
        if which is None:
            self.assertIsNone(cause)
        else:
            self.assertIsInstance(cause, BadNumber)
            self.assertEqual(cause.which, which)

    def test_words_and_signs(self):
        both = {
            "in X Y": ("in", "X", "Y"),
            "to & X Y | x every": ("to", ("&", "X", "Y"), ("|", "x", "every")),
            "count - X none 0 0 1": ("count", ("-", "X", "none"), 0, 0, 1),
            "arrows ^ A B99 C 9 4 6": ("arrows", ("^", "A", "B99"), "C", 9, 4, 6),
            "not in X Y": ("not", ("in", "X", "Y")),
            "and in X Y to X Y": ("and", ("in", "X", "Y"), ("to", "X", "Y")),
            "or in X Y not to X Y": ("or", ("in", "X", "Y"), ("not", ("to", "X", "Y"))),
            "some X in X Y": ("some", "X", ("in", "X", "Y")),
            "all x in x Y": ("all", "x", ("in", "x", "Y")),
            "num 5 6 X in X Y": ("num", 5, 6, "X", ("in", "X", "Y")),
            "some X in & X Y none": ("some", "X", ("in", ("&", "X", "Y"), "none")),
        }
        for text, saying in both.items():
            self.assertEqual(written(saying), text)
            self.assertEqual(read_saying(text), saying)

    def test_back_again(self):
        chance = seeded(9)
        for _ in range(300):
            saying = chance_saying(chance, ["X", "Y7", "z", "q10"], chance.randint(0, 4))
            self.assertEqual(read_saying(written(saying)), saying)

    def test_long_and_deep(self):
        expression = "X"
        for _ in range(60):
            expression = ("-", expression, "Y")
        saying = ("in", expression, "none")
        for _ in range(60):
            saying = ("not", saying)
        long = both_of(*[saying] * 15)
        self.assertGreater(len(written(long).split(" ")), 2500)
        self.assertEqual(read_saying(written(long)), long)

    def test_empty_words(self):
        self.bad("", 0)
        self.bad(" ", 0)
        self.bad(" in X Y", 0)
        self.bad("in  X Y", 1)
        self.bad("in X  Y", 2)
        self.bad("in X Y ", 3)
        self.bad("in X ", 2)

    def test_unknown_words(self):
        self.bad("X", 0)
        self.bad("in in X", 1)
        self.bad("in X and", 2)
        self.bad("in & X no", 3)
        self.bad("not X", 1)
        self.bad("some every in X Y", 1)
        self.bad("some & X Y in X Y", 1)
        self.bad("all 1 in X Y", 1)
        self.bad("In X Y", 0)
        self.bad("in X123 Y", 1)
        self.bad("in\nX Y", 0)
        self.bad("count X one 1 1", 2)
        self.bad("count X 1 X 1", 3)
        self.bad("count X 1 1 -1", 4)
        self.bad("count X 0x1 1 1", 2)
        self.bad("num X 2 X in X Y", 1)

    def test_left_over_and_missing(self):
        self.bad("in X Y Z", 3)
        self.bad("in X Y in", 3)
        self.bad("not in X Y in X Y", 4)
        self.bad("in", 1)
        self.bad("in X", 2)
        self.bad("in & X", 3)
        self.bad("some X", 2)
        self.bad("count X 9", 3)
        self.bad("count X 99 4", 4)
        self.bad("num 9", 2)
        self.bad("not not not", 3)

    def test_leading_zeros(self):
        self.bad("count X 00 1 1", 2)
        self.bad("count X 0 01 1", 3)
        self.bad("count X 0 1 01", 4)
        self.bad("num 00 2 X in X Y", 1)
        self.bad("num 0 02 X in X Y", 2)
        self.bad("count X 0099 9 9", 2)

    def test_bounds(self):
        for t in range(7):
            for d in range(9):
                for a in range(13):
                    for head, first in (("count X", 2), ("arrows X Y", 3)):
                        text = f"{head} {a} {t} {d}"
                        if t > 4:
                            self.bad(text, first + 1, "t")
                        elif not 1 <= d <= 6:
                            self.bad(text, first + 2, "d")
                        elif a >= t + d:
                            self.bad(text, first + 2, "a")
                        else:
                            self.assertEqual(written(read_saying(text)), text)

    def test_bounds_of_num(self):
        for d in range(9):
            for a in range(9):
                text = f"num {a} {d} X in X Y"
                if not 2 <= d <= 6:
                    self.bad(text, 2, "d")
                elif a >= d:
                    self.bad(text, 2, "a")
                else:
                    self.assertEqual(read_saying(text)[1:3], (a, d))

    def test_large_numbers(self):
        self.bad("count X 1 " + "9" * 60 + " 1", 3, "t")
        self.bad("count X 1 1 " + "9" * 6000, 4, "d")
        self.bad("count X " + "1" * 60 + " 4 6", 4, "a")
        self.bad("num " + "1" * 6000 + " 6 X in X Y", 2, "a")
        self.bad("count X 1000 4 6 7", 4, "a")
        self.bad("count X 1 1 0", 4, "d")


if __name__ == "__main__":
    unittest.main()
