import unittest

from lotsayings.cuts import check_number, cut, is_int
from lotsayings.errors import BadNumber
from tests.helpers import fold


class CutsTest(unittest.TestCase):
    def bad(self, which, call, *args):
        with self.assertRaises(BadNumber) as caught:
            call(*args)
        self.assertEqual(caught.exception.which, which)

    def test_is_int(self):
        for value in (0, -3, 10 ** 60):
            self.assertIs(is_int(value), True)
        for value in (True, False, None, "1", 1.0, (1,), [1]):
            self.assertIs(is_int(value), False)

    def test_check_number(self):
        self.assertEqual(check_number(3, "n", 3, 5), 3)
        self.assertEqual(check_number(5, "n", 3, 5), 5)
        self.assertEqual(check_number(10 ** 59, "n", 3, None), 10 ** 59)
        self.assertEqual(check_number(-(10 ** 59), "n", None, 5), -(10 ** 59))
        self.assertEqual(check_number(-7, "n", None, None), -7)
        for value, low, high in [(2, 3, 5), (6, 3, 5), (2, 3, None), (6, None, 5), (True, 0, 5), (False, None, None)]:
            self.bad("n", check_number, value, "n", low, high)
        for value in (None, "3", 3.0, [3]):
            self.bad("what", check_number, value, "what", None, None)

    def test_cut(self):
        for t in range(5):
            for d in range(1, 7):
                for n in range(40):
                    self.assertEqual(cut(n, t, d), fold(n, t, d))
        self.assertEqual(cut(10 ** 60 + 5, 4, 5), 5)

    def test_cuts_of_sums_and_products(self):
        for t in range(5):
            for d in range(1, 7):
                for n in range(16):
                    for m in range(16):
                        low, high = cut(n, t, d), cut(m, t, d)
                        self.assertEqual(cut(n + m, t, d), cut(low + high, t, d))
                        self.assertEqual(cut(n * m, t, d), cut(low * high, t, d))

    def test_cut_errors(self):
        self.bad("number", cut, -1, 0, 1)
        self.bad("number", cut, True, 9, 9)
        self.bad("t", cut, 0, 5, 9)
        self.bad("t", cut, 0, -1, 1)
        self.bad("t", cut, 0, False, 1)
        self.bad("d", cut, 0, 4, 0)
        self.bad("d", cut, 0, 4, 7)
        self.bad("d", cut, 0, 4, True)


if __name__ == "__main__":
    unittest.main()
