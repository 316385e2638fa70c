import unittest
from itertools import product
from math import lcm
from unittest.mock import patch

from lotsayings.benches import Bench
from lotsayings.compiler import machine_of
from lotsayings.errors import BadNumber, BadTerm, NotOnTrees, NotWeb, OtherTracks, TooGreat, TooMany
from lotsayings.leasts import least
from lotsayings.machines import Machine
from lotsayings.marks import MarkTable
from lotsayings.picks import no_pick
from lotsayings.rings import steps_of
from lotsayings.terms import check_term, hung, size_of
from lotsayings.unmoved import unmoved_lots
from tests.helpers import (
    all_lots, chance_cuts, chance_machine, chance_term, chance_web_machine, children_by_web, fold, seeded,
    small_terms, with_bit,
)

TREES = Bench.trees()
LEAF = (0, ())
STAR = hung(LEAF, LEAF, times=2)


def parts_of_tree(term):
    """The bits of the root, and the subtrees of its children."""
    children = []
    while len(term) == 3:
        children.append(term[2])
        term = term[1]
    return term[1], children[::-1]


def mark_by_hand(machine, term):
    """The mark of a tree, by point 77; the machine is least."""
    table = machine.rows[0]
    bits, children = parts_of_tree(term)
    marks = [mark_by_hand(machine, child) for child in children]
    firsts = {machine.state((0, bits + (b,))) for b in (0, 1)}
    for mark in marks:
        firsts = {table[p][q] for p in firsts for q in mark[0]}
    unlike = sorted(set(marks))
    seconds = set()
    for b, choice in product((0, 1), product(*[mark[1] for mark in unlike])):
        state = machine.state((0, bits + (b,)))
        for mark in marks:
            state = table[state][choice[unlike.index(mark)]]
        seconds.add(state)
    return tuple(sorted(firsts)), tuple(sorted(seconds))


def node_by_hand(machine, term):
    """The mark node of a tree, by point 79."""
    bits, children = parts_of_tree(term)
    marks = [mark_by_hand(machine, child) for child in children]
    counts = []
    for mark in sorted(set(marks)):
        walks = [steps_of(machine, p, q) for p in range(machine.states) for q in mark[1]]
        t = max(1, max(walk[0] for walk in walks))
        d = lcm(*[walk[1] for walk in walks])
        counts.append((mark, fold(marks.count(mark), t, d)))
    return mark_by_hand(machine, term)[0], bits, tuple(counts)


def trees_by_nodes(machine, most):
    """For each mark node a small tree, by joining known ones; None if there are more than most."""
    tracks = machine.many - 1
    found = {}
    for bits in product((0, 1), repeat=tracks):
        found[node_by_hand(machine, (0, bits))] = (0, bits)
    grown = True
    while grown:
        grown = False
        kinds = {mark_by_hand(machine, tree): tree for tree in reversed(list(found.values()))}
        for tree in list(found.values()):
            for child in kinds.values():
                term = (0, tree, child)
                node = node_by_hand(machine, term)
                if node not in found:
                    found[node] = term
                    grown = True
                    if len(found) > most:
                        return None
    return found


class MarkTableTest(unittest.TestCase):
    def test_all_small_trees(self):
        chance = seeded(771)
        tables = 0
        for _ in range(60):
            machine = chance_web_machine(chance, chance.randint(1, 2), chance_cuts(chance)[:2])
            try:
                table = MarkTable(machine)
            except TooGreat:
                continue
            tables += 1
            whole = least(machine)
            self.assertEqual(table.machine, whole)
            marks = list(table)
            self.assertEqual(marks, sorted(set(marks)))
            self.assertEqual(table.number, len(marks))
            smallest = {}
            for term in small_terms(TREES, 5 if machine.many == 1 else 3, machine.many - 1):
                mark = mark_by_hand(whole, term)
                self.assertEqual(table.mark_of(term), mark)
                self.assertIn(mark, marks)
                smallest.setdefault(mark, size_of(term))
            for mark in marks:
                self.judge_mark(table, mark, smallest.get(mark), 5 if machine.many == 1 else 3)
        self.assertGreater(tables, 15)

    def judge_mark(self, table, mark, fewest, most):
        machine = table.machine
        self.assertIs(table.fits(mark), bool(set(mark[0]) & set(machine.accepted)))
        self.assertIs(table.picks(mark), bool(set(mark[1]) & set(machine.accepted)))
        try:
            tree = table.tree_for(mark)
        except TooMany as error:
            self.assertEqual(error.which, "places")
            self.assertIsNone(fewest)
            return
        self.assertIsNone(check_term(TREES, tree, machine.many - 1))
        if fewest is None:
            self.assertGreater(size_of(tree), most)
        else:
            self.assertEqual(size_of(tree), fewest)
        if size_of(tree) < 40:
            self.assertEqual(mark_by_hand(machine, tree), mark)
        if size_of(tree) < 8:
            self.judge_children(machine, tree)
            lots = unmoved_lots(tree)
            self.assertEqual({machine.state(with_bit(tree, machine.many - 1, lot)) for lot in lots}, set(mark[1]))
            states = {machine.state(with_bit(tree, machine.many - 1, lot)) for lot in all_lots(size_of(tree))}
            self.assertEqual(states, set(mark[0]))

    def judge_children(self, machine, tree):
        """At each place children of equal mark have equal subtrees."""
        _, children = parts_of_tree(tree)
        known = {}
        for child in children:
            self.assertEqual(known.setdefault(mark_by_hand(machine, child), child), child)
            self.judge_children(machine, child)

    def test_fewest_places_of_all_trees(self):
        """Grows trees by sizes, one for each mark, as far as all marks are met."""
        chance = seeded(772)
        for _ in range(12):
            machine = least(chance_web_machine(chance, 1, [(chance.randint(0, 1), chance.randint(1, 3))]))
            table = MarkTable(machine)
            smallest = {}
            for term in small_terms(TREES, 6, 0):
                smallest.setdefault(mark_by_hand(machine, term), size_of(term))
            for mark in table:
                if table.tree_for(mark) and size_of(table.tree_for(mark)) < 7:
                    self.assertEqual(size_of(table.tree_for(mark)), smallest[mark])
                else:
                    self.assertNotIn(mark, smallest)

    def test_number_of_nodes_and_marks(self):
        chance = seeded(773)
        seen = set()
        for _ in range(25):
            machine = least(chance_web_machine(chance, chance.randint(1, 2), [(1, 1)] * chance.randint(1, 2)))
            found = trees_by_nodes(machine, 60)
            if found is None:
                continue
            table = MarkTable(machine)
            self.assertEqual(sorted({mark_by_hand(machine, tree) for tree in found.values()}), list(table))
            self.assertEqual(len(table.nodes.all_nodes), len(found))
            seen.add(len(found))
        self.assertGreater(len(seen), 4)

    def test_example(self):
        below = machine_of(("and", ("count", "X", 1, 2, 1), ("to", "every", "X")), TREES)
        table = MarkTable(below)
        self.assertEqual(
            list(table), [((0, 1), (0, 1)), ((0, 1, 2, 3), (0, 1, 2, 3)), ((0, 1, 2, 3), (0, 1, 3))]
        )
        self.assertEqual(table.mark_of(STAR), ((0, 1, 2, 3), (0, 1, 3)))
        self.assertEqual(table.tree_for(((0, 1, 2, 3), (0, 1, 3))), STAR)
        self.assertEqual((table.number, table.machine), (3, below))
        self.assertEqual([table.fits(mark) for mark in table], [False, True, True])
        self.assertEqual([table.picks(mark) for mark in table], [False, True, False])

    def test_great_trees(self):
        below = machine_of(("and", ("count", "X", 1, 2, 1), ("to", "every", "X")), TREES)
        table = MarkTable(below)
        self.assertEqual(table.mark_of(hung(LEAF, LEAF, times=199)), ((0, 1, 2, 3), (0, 1, 3)))
        chain = LEAF
        for _ in range(199):
            chain = (0, LEAF, chain)
        self.assertEqual(table.mark_of(chain), ((0, 1, 2, 3), (0, 1, 2, 3)))

    def test_least_machines_have_the_same_marks(self):
        chance = seeded(774)
        for _ in range(20):
            machine = chance_web_machine(chance, 1, [(chance.randint(0, 1), chance.randint(1, 3))])
            self.assertEqual(list(MarkTable(machine)), list(MarkTable(least(machine))))


def turning(steps, many):
    """Adds, by the number of steps, for each child the step of its state; no track is read."""
    states = len(steps)
    rows = tuple(tuple((p + step) % states for step in steps) for p in range(states))
    return Machine(TREES, many, ((0,) * 2 ** many,), (rows,), (0,))


class RefusalTest(unittest.TestCase):
    def refused(self, kind, attributes, call, *passed):
        with self.assertRaises(kind) as caught:
            call(*passed)
        self.assertEqual(vars(caught.exception), attributes)

    def test_order(self):
        chance = seeded(775)
        for bench in (Bench.boughs(), Bench.cotrees(), Bench.narrow_rows()):
            self.refused(NotOnTrees, {}, MarkTable, chance_machine(chance, bench, 0, 2))
        self.refused(OtherTracks, {}, MarkTable, Machine(TREES, 0, ((0,),), (((1, 0), (1, 0)),), (1,)))
        self.refused(NotWeb, {}, MarkTable, Machine(TREES, 1, ((0, 0),), (((1, 0), (1, 0)),), (1,)))

    def test_three_hundred_nodes(self):
        table = MarkTable(turning((1, 3, 2, 0), 2))
        self.assertEqual(len(table.nodes.all_nodes), 300)
        self.assertEqual(table.number, 4)
        self.refused(TooGreat, {"step": "nodes"}, MarkTable, turning((1, 3, 2, 0), 3))
        self.refused(TooGreat, {"step": "nodes"}, MarkTable, turning((1, 3, 1, 1), 2))

    def test_methods(self):
        table = MarkTable(machine_of(("count", "X", 1, 2, 1), TREES))
        mark = table.mark_of(LEAF)
        self.assertIn(mark, list(table))
        for wrong in (
            (), (mark[0],), mark + ((),), [mark[0], mark[1]], (list(mark[0]), mark[1]), None, 5, "mark",
            (mark[0], (9,)), ((0, True), (0, 1)), (mark[0], None), (({},), ()),
        ):
            for call in (table.tree_for, table.fits, table.picks):
                self.refused(BadNumber, {"which": "mark"}, call, wrong)
        for term, path in (((0, (1,)), ()), ((0, LEAF, 5), (1,)), ((0, None, LEAF), (0,)), (None, ())):
            self.refused(BadTerm, {"path": path}, table.mark_of, term)

    def test_too_many_places(self):
        """With at most 300 nodes no tree was met that needs more than 200 places: so the bound is lowered here."""
        below = machine_of(("and", ("count", "X", 1, 2, 1), ("to", "every", "X")), TREES)
        table = MarkTable(below)
        star = table.mark_of(STAR)
        with patch("lotsayings.marks.MOST_PLACES", 3):
            self.assertEqual(size_of(table.tree_for(star)), 3)
            self.assertEqual(no_pick(below), STAR)
        with patch("lotsayings.marks.MOST_PLACES", 2):
            self.refused(TooMany, {"which": "places"}, table.tree_for, star)
            self.refused(TooMany, {"which": "places"}, no_pick, below)
            self.refused(BadNumber, {"which": "mark"}, table.tree_for, ())
            self.assertEqual(size_of(table.tree_for(table.mark_of(LEAF))), 1)


class CopiesTest(unittest.TestCase):
    def test_marks_follow_from_nodes(self):
        chance = seeded(777)
        for _ in range(40):
            machine = least(chance_web_machine(chance, 1, chance_cuts(chance)[:1]))
            try:
                table = MarkTable(machine)
            except TooGreat:
                continue
            term = chance_term(chance, TREES, chance.randint(1, 25), 0)
            self.assertEqual(table.mark_of(term), mark_by_hand(machine, term))
            self.assertEqual(len(children_by_web(TREES, term)), size_of(term))


if __name__ == "__main__":
    unittest.main()
