import unittest
from fractions import Fraction
from itertools import permutations
from math import gcd, prod

from lotsayings.fractions import determinant, kernel, rank_of, solved
from tests.helpers import seeded


def reduced_by_hand(rows, width):
    """The rows in reduced form over the fractions, and the places of their first ones."""
    rest = [[Fraction(x) for x in row] for row in rows]
    places = []
    for at in range(width):
        top = len(places)
        pivot = next((k for k in range(top, len(rest)) if rest[k][at]), None)
        if pivot is None:
            continue
        rest[top], rest[pivot] = rest[pivot], rest[top]
        rest[top] = [x / rest[top][at] for x in rest[top]]
        for k, row in enumerate(rest):
            if k != top:
                rest[k] = [x - row[at] * y for x, y in zip(row, rest[top])]
        places.append(at)
    return rest, places


def determinant_by_hand(rows):
    whole = 0
    for order in permutations(range(len(rows))):
        turns = sum(order[i] > order[k] for i in range(len(order)) for k in range(i + 1, len(order)))
        whole += (-1) ** turns * prod(row[at] for row, at in zip(rows, order))
    return whole


def chance_rows(chance, many, width, most):
    rows = [[chance.randint(-most, most) for _ in range(width)] for _ in range(many)]
    for k in range(1, many):
        if chance.random() < 0.3:
            other = rows[chance.randrange(k)]
            rows[k] = [chance.randint(-2, 2) * x + y for x, y in zip(other, rows[chance.randrange(k)])]
    return rows


class FractionsTest(unittest.TestCase):
    def some_rows(self, seed):
        chance = seeded(seed)
        for turn in range(200):
            most = (2, 1, 30, 10 ** 60 - 1)[turn % 4]
            many, width = chance.randint(0, 6), chance.randint(1, 6)
            rows = chance_rows(chance, many, width, most)
            yield chance, tuple(map(tuple, rows)) if turn % 2 else rows, width

    def test_rank(self):
        seen = set()
        for _, rows, width in self.some_rows(951):
            rank = rank_of(rows)
            self.assertEqual(rank, len(reduced_by_hand(rows, width)[1]))
            seen.add((rank, len(rows)))
        self.assertTrue({(2, 3), (3, 3), (0, 0)} <= seen)
        self.assertEqual([rank_of(()), rank_of([]), rank_of([(0, 0)]), rank_of([(), ()])], [0, 0, 0, 0])
        self.assertEqual(rank_of([[0, 2], [0, 3], [0, 0]]), 1)

    def test_determinant(self):
        chance = seeded(952)
        for turn in range(150):
            size = chance.randint(0, 5)
            most = (1, 3, 50, 10 ** 60 - 1)[turn % 4]
            rows = chance_rows(chance, size, size, most)
            self.assertEqual(determinant(rows), determinant_by_hand(rows))
            self.assertEqual(determinant(tuple(map(tuple, rows))), determinant_by_hand(rows))
        self.assertEqual([determinant(()), determinant([[0]]), determinant([[-7]])], [1, 0, -7])
        self.assertEqual(determinant([[0, 1], [1, 0]]), -1)
        self.assertEqual(determinant([[0, 0, 1], [0, 1, 0], [1, 0, 0]]), -1)
        self.assertEqual(determinant([[0, 0, 1], [1, 0, 0], [0, 1, 0]]), 1)
        many = [[int(i <= k) + int(i == k) for k in range(40)] for i in range(40)]
        self.assertEqual(determinant(many), 2 ** 40)

    def test_kernel(self):
        lengths = set()
        for _, rows, width in self.some_rows(953):
            found = kernel(rows, width)
            self.assertIsInstance(found, tuple)
            places = reduced_by_hand(rows, width)[1]
            free = [at for at in range(width) if at not in places]
            self.assertEqual(len(found), len(free))
            for x, at in zip(found, free):
                self.assertIsInstance(x, tuple)
                self.assertEqual(len(x), width)
                self.assertGreater(x[at], 0)
                self.assertEqual(gcd(*x), 1)
                self.assertFalse(any(x[other] for other in free if other != at))
                for row in rows:
                    self.assertEqual(sum(a * b for a, b in zip(x, row)), 0)
            lengths.add((len(found), width))
        self.assertTrue({(0, 2), (1, 2), (2, 2), (3, 4)} <= lengths)

    def test_kernels_by_hand(self):
        self.assertEqual(kernel((), 3), ((1, 0, 0), (0, 1, 0), (0, 0, 1)))
        self.assertEqual(kernel([], 0), ())
        self.assertEqual(kernel([(0, 0)], 2), ((1, 0), (0, 1)))
        self.assertEqual(kernel([(0, 2, 4)], 3), ((1, 0, 0), (0, -2, 1)))
        self.assertEqual(kernel([(2, 0, 3), (0, 5, 7)], 3), ((-15, -14, 10),))
        self.assertEqual(kernel([(1, 2), (3, 4)], 2), ())
        self.assertEqual(kernel(((4, 6, 0, 2),), 4), ((-3, 2, 0, 0), (0, 0, 1, 0), (-1, 0, 0, 2)))

    def test_solved(self):
        seen = set()
        for chance, rows, width in self.some_rows(954):
            rows = [list(row) for row in rows]
            while len(reduced_by_hand(rows, width)[1]) < len(rows):
                rows.pop(chance.randrange(len(rows)))
            shares = [Fraction(chance.randint(-6, 6), chance.randint(1, 5)) for _ in rows]
            low = 1
            for share in shares:
                low *= share.denominator
            row = [sum(low * share * other[at] for share, other in zip(shares, rows)) for at in range(width)]
            row = tuple(int(x) for x in row)
            found = solved(rows, row)
            told = tuple(((low * share).numerator, (low * share).denominator) for share in shares)
            self.assertEqual(found, told)
            other = [chance.randint(-3, 3) for _ in range(width)]
            found = solved(tuple(map(tuple, rows)), other)
            if found is None:
                self.assertEqual(len(reduced_by_hand(rows + [other], width)[1]), len(rows) + 1)
            else:
                self.judge_combination(rows, other, found)
            seen.add(found is None)
        self.assertEqual(seen, {True, False})

    def judge_combination(self, rows, row, found):
        self.assertIsInstance(found, tuple)
        for numerator, denominator in found:
            self.assertGreaterEqual(denominator, 1)
            self.assertEqual(gcd(numerator, denominator), 1)
        shares = [Fraction(*pair) for pair in found]
        for at, number in enumerate(row):
            self.assertEqual(sum(share * other[at] for share, other in zip(shares, rows)), number)

    def test_solved_by_hand(self):
        self.assertEqual(solved((), (0, 0, 0)), ())
        self.assertEqual(solved([], []), ())
        self.assertIsNone(solved((), (0, 1)))
        self.assertEqual(solved([(2, 4)], (0, 0)), ((0, 1),))
        self.assertEqual(solved([(2, 4)], (-1, -2)), ((-1, 2),))
        self.assertEqual(solved([(-2, -4)], [3, 6]), ((-3, 2),))
        self.assertIsNone(solved([(2, 4)], (1, 1)))
        self.assertEqual(solved([(0, 3), (2, 1)], (4, 3)), ((1, 3), (2, 1)))
        great = 10 ** 59 + 7
        self.assertEqual(solved([(great, 1), (1, great)], (great + 1, great + 1)), ((1, 1), (1, 1)))

    def test_great_squares(self):
        chance = seeded(955)
        rows = [[chance.randint(-10 ** 60 + 1, 10 ** 60 - 1) for _ in range(14)] for _ in range(14)]
        self.assertEqual(rank_of(rows), 14)
        self.assertNotEqual(determinant(rows), 0)
        found = solved(rows[:13], rows[13])
        self.assertIsNone(found)
        twice = [sum(x) for x in zip(*rows)]
        self.assertEqual(solved(rows, twice), ((1, 1),) * 14)
        self.assertEqual(len(kernel(rows[:9], 14)), 5)

    def test_arguments_are_not_changed(self):
        rows = [[2, 4], [1, 3]]
        row = [1, 1]
        self.assertEqual((solved(rows, row), rank_of(rows), determinant(rows), kernel(rows, 2)), (
            ((1, 1), (-1, 1)), 2, 2, ()
        ))
        self.assertEqual((rows, row), ([[2, 4], [1, 3]], [1, 1]))


if __name__ == "__main__":
    unittest.main()
