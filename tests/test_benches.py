import unittest

from lotsayings.benches import Bench
from lotsayings.errors import BadBench
from tests.helpers import WIDE

JOIN = (((0, 1),), (), (0, 1), (1, 1))


class BenchTest(unittest.TestCase):
    def bad(self, which, labels, starts, joins):
        with self.assertRaises(BadBench) as caught:
            Bench(labels, starts, joins)
        self.assertEqual(caught.exception.which, which)

    def test_attributes(self):
        bench = Bench(2, (0, 1), (JOIN, JOIN))
        self.assertEqual((bench.labels, bench.starts, bench.joins), (2, (0, 1), (JOIN, JOIN)))
        self.assertEqual(len(bench), 2)
        self.assertEqual(len(WIDE), 3)

    def test_equality(self):
        self.assertEqual(Bench(2, (0,), (JOIN,)), Bench(2, (0,), (JOIN,)))
        self.assertNotEqual(Bench(2, (0,), (JOIN,)), Bench(2, (1,), (JOIN,)))
        self.assertNotEqual(Bench(2, (0,), (JOIN,)), Bench(2, (0,), (JOIN, JOIN)))
        self.assertNotEqual(Bench.trees(), Bench.boughs())
        self.assertIs(Bench.trees() == 3, False)

    def test_labels(self):
        for labels in (0, 4, -1, True, None, "2"):
            self.bad("labels", labels, None, None)
        one = ((), (), (0,), (0,))
        three = ((), (), (0, 1, 2), (2, 2, 2))
        self.assertEqual(Bench(1, (0,), (one,)).labels, 1)
        self.assertEqual(Bench(3, (0, 1, 2), (three, three, three)).labels, 3)

    def test_starts(self):
        for starts in ((), [0], (2,), (1, 0), (0, 0), (True,), None, (-1,), 0, ("0",)):
            self.bad("starts", 2, starts, None)

    def test_number_of_joins(self):
        for joins in ((), (JOIN,) * 4, [JOIN], None, JOIN):
            self.bad("joins", 2, (0,), joins)
        for many in (1, 2, 3):
            self.assertEqual(len(Bench(2, (0,), (JOIN,) * many)), many)

    def test_parts_of_joins(self):
        wrong = [
            [((0, 1),), (), (0, 1), (1, 1)],
            (((0, 1),), (), (0, 1)),
            (((0, 1),), (), (0, 1), (1, 1), ()),
            ([(0, 1)], (), (0, 1), (1, 1)),
            (([0, 1],), (), (0, 1), (1, 1)),
            (((0, 2),), (), (0, 1), (1, 1)),
            (((1, 0), (0, 1)), (), (0, 1), (1, 1)),
            (((0, 1), (0, 1)), (), (0, 1), (1, 1)),
            (((0, 1, 1),), (), (0, 1), (1, 1)),
            (((0, True),), (), (0, 1), (1, 1)),
            ((), ((0, 2),), (0, 1), (1, 1)),
            ((), ((1, 1), (1, 0)), (0, 1), (1, 1)),
            ((), (), (0,), (1, 1)),
            ((), (), (0, 2), (1, 1)),
            ((), (), [0, 1], (1, 1)),
            ((), (), (0, 1), (1, 1, 1)),
            ((), (), (0, 1), (1, -1)),
            ((), (), (0, 1), (1, True)),
            ((), (), (0, 1), None),
        ]
        for join in wrong:
            self.bad("joins", 2, (0,), (JOIN, join))

    def test_named_benches(self):
        self.assertEqual(Bench.trees(), Bench(2, (0,), ((((0, 0),), (), (0, 1), (1, 1)),)))
        self.assertEqual(Bench.boughs(), Bench(2, (0,), ((((0, 0),), ((0, 0),), (0, 1), (1, 1)),)))
        apart = ((), (), (0,), (0,))
        tied = (((0, 0),), ((0, 0),), (0,), (0,))
        self.assertEqual(Bench.cotrees(), Bench(1, (0,), (apart, tied)))
        self.assertEqual(Bench.narrow_rows(), Bench(2, (0,), ((((0, 0),), (), (1, 1), (0, 1)),)))


if __name__ == "__main__":
    unittest.main()
