"""Benches: labels, starts and joins."""

from lotsayings.cuts import is_between
from lotsayings.errors import BadBench

MOST_LABELS = 3
MOST_JOINS = 3


def is_ascending(row):
    """Whether each item of the row is less than the one behind it."""
    for i in range(1, len(row)):
        if row[i - 1] >= row[i]:
            return False
    return True


def are_labels(row, labels):
    """Whether row is a tuple of labels."""
    if not isinstance(row, tuple):
        return False
    return all([is_between(label, 0, labels - 1) for label in row])


def are_starts(starts, labels):
    """Whether starts is an ascending tuple of labels, one at least."""
    return are_labels(starts, labels) and len(starts) > 0 and is_ascending(starts)


def are_pairs(pairs, labels):
    """Whether pairs is an ascending tuple of pairs of labels."""
    if not isinstance(pairs, tuple):
        return False
    for pair in pairs:
        if not are_labels(pair, labels) or len(pair) != 2:
            return False
    return is_ascending(pairs)


def is_join(join, labels):
    """Whether join is a tuple (fore, back, left, right)."""
    if not isinstance(join, tuple) or len(join) != 4:
        return False
    fore, back, left, right = join
    if not are_pairs(fore, labels) or not are_pairs(back, labels):
        return False
    if not are_labels(left, labels) or not are_labels(right, labels):
        return False
    return len(left) == labels and len(right) == labels


def are_joins(joins, labels):
    """Whether joins is a tuple of one to three joins."""
    if not isinstance(joins, tuple) or not 1 <= len(joins) <= MOST_JOINS:
        return False
    return all([is_join(join, labels) for join in joins])


class Bench:
    """Labels 0 .. labels-1, the labels of leaves, and the joins (fore, back, left, right)."""

    def __init__(self, labels, starts, joins):
        if not is_between(labels, 1, MOST_LABELS):
            raise BadBench("labels")
        if not are_starts(starts, labels):
            raise BadBench("starts")
        if not are_joins(joins, labels):
            raise BadBench("joins")
        self.labels = labels
        self.starts = starts
        self.joins = joins

    def __eq__(self, other):
        if not isinstance(other, Bench):
            return False
        return self.labels == other.labels and self.starts == other.starts and self.joins == other.joins

    def __len__(self):
        return len(self.joins)

    @classmethod
    def trees(cls):
        """The bench of the rooted trees with arrows away from the root."""
        return cls(2, (0,), ((((0, 0),), (), (0, 1), (1, 1)),))

    @classmethod
    def boughs(cls):
        """The bench of the rooted trees with arrows both ways."""
        return cls(2, (0,), ((((0, 0),), ((0, 0),), (0, 1), (1, 1)),))

    @classmethod
    def cotrees(cls):
        """The bench of the webs that are put side by side or wholly tied, again and again."""
        return cls(1, (0,), (((), (), (0,), (0,)), (((0, 0),), ((0, 0),), (0,), (0,))))

    @classmethod
    def narrow_rows(cls):
        """The bench whose narrow terms build the rows with the arrows (0, 1), (1, 2), .."""
        return cls(2, (0,), ((((0, 0),), (), (1, 1), (0, 1)),))
