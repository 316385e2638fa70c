import unittest
from itertools import product
from unittest.mock import patch

from lotsayings.benches import Bench
from lotsayings.compiler import machine_of
from lotsayings.errors import (
    BadName, BadSaying, BadTerm, NotOnTrees, NotPicked, NotWeb, OtherTracks, TooGreat, TooMany,
)
from lotsayings.founds import useful
from lotsayings.hanging import is_web_machine
from lotsayings.leasts import least
from lotsayings.machines import Machine
from lotsayings.marks import MarkTable
from lotsayings.meanings import fitting
from lotsayings.nodes import Nodes
from lotsayings.picks import PickNodes, can_pick, greatest_saying, no_pick, picked, picker
from lotsayings.rings import ring
from lotsayings.sayings import both_of, check_saying, free_names
from lotsayings.terms import check_term, colour, hung, size_of, tracks_of, web_of
from lotsayings.unmoved import is_unmoved, lots_of, unmoved_lots
from lotsayings.verdicts import gives
from tests.helpers import (
    all_lots, chance_cuts, chance_machine, chance_saying, chance_term, chance_web_machine, seeded, small_terms,
    with_bit,
)
from tests.test_marks import mark_by_hand, node_by_hand, parts_of_tree, turning

TREES = Bench.trees()
LEAF = (0, ())
STAR = hung(LEAF, LEAF, times=2)
SINGLE = machine_of(("count", "X", 1, 2, 1), TREES)
BELOW = machine_of(("and", ("count", "X", 1, 2, 1), ("to", "every", "X")), TREES)


def choices_by_hand(machine, term):
    """The choices of a tree in order, each with the states of its children and the state to which it leads."""
    bits, children = parts_of_tree(term)
    marks = [mark_by_hand(machine, child) for child in children]
    unlike = sorted(set(marks))
    for b in (0, 1):
        for choice in product(*[mark[1] for mark in unlike]):
            state = machine.state((0, bits + (b,)))
            states = [choice[unlike.index(mark)] for mark in marks]
            for q in states:
                state = machine.rows[0][state][q]
            yield b, states, state


def picked_for(machine, term, wanted):
    """The bits of the picked lot for a state, place by place."""
    _, children = parts_of_tree(term)
    for b, states, state in choices_by_hand(machine, term):
        if state == wanted:
            row = [b]
            for child, q in zip(children, states):
                row += picked_for(machine, child, q)
            return row
    raise AssertionError("no choice leads to the state")


def picked_by_hand(machine, term):
    """The picked lot of a tree, by point 81."""
    whole = least(machine)
    states = [state for state in mark_by_hand(whole, term)[1] if state in whole.accepted]
    if not states:
        return None
    row = picked_for(whole, term, min(states))
    return tuple(place for place, bit in enumerate(row) if bit)


def without_last(term):
    if len(term) == 2:
        return (term[0], term[1][:-1])
    return (term[0], without_last(term[1]), without_last(term[2]))


def last_bits(term):
    if len(term) == 2:
        return [term[1][-1]]
    return last_bits(term[1]) + last_bits(term[2])


def pick_node_by_hand(machine, term):
    """The pick node of a term with the counted track, by the interface; the machine is least."""
    if machine.state(term) not in useful(machine):
        return "dead"
    bits, children = parts_of_tree(term)
    states = {}
    for child in children:
        tree = without_last(child)
        state = machine.state(child)
        known = mark_by_hand(machine, tree)
        if state not in known[1] or picked_for(machine, tree, state) != last_bits(child):
            return "dead"
        if pick_node_by_hand(machine, child) == "dead":
            return "dead"
        if states.setdefault(known, state) != state:
            return "dead"
    return node_by_hand(machine, without_last(term)), bits[-1], tuple(sorted(states.items()))


def pick_nodes_by_hand(machine, most):
    """The number of pick nodes of terms; None if there are more than most, or if terms become great."""
    found = {}
    for bits in product((0, 1), repeat=machine.many):
        found.setdefault(pick_node_by_hand(machine, (0, bits)), (0, bits))
    grown = True
    while grown:
        grown = False
        for one in list(found.values()):
            for two in list(found.values()):
                term = (0, one, two)
                if size_of(term) > 14:
                    return None
                node = pick_node_by_hand(machine, term)
                if node not in found:
                    found[node] = term
                    grown = True
                    if len(found) > most:
                        return None
    return len(found)


def some_machines(chance, many):
    """Web machines with one or two tracks whose tables of marks are not too great."""
    while many:
        if chance.random() < 0.5:
            machine = chance_web_machine(chance, chance.randint(1, 2), chance_cuts(chance)[:2])
            if chance.random() < 0.7:
                machine = machine.accepting((chance.randrange(machine.states),))
        else:
            names = ["Y", "X"]
            saying = chance_saying(chance, names[chance.randint(0, 1):], chance.randint(0, 2))
            if chance.random() < 0.6:
                few = [("count", "X", 1, 2, 1), ("count", "X", 2, 3, 1), ("not", ("to", "X", "X"))]
                saying = ("and", chance.choice(few), saying)
            names = [name for name in names if name in free_names(saying)] + ["X"] * ("X" not in free_names(saying))
            try:
                machine = machine_of(saying, TREES, names=names)
            except TooGreat:
                continue
        try:
            MarkTable(machine)
        except TooGreat:
            continue
        many -= 1
        yield machine


class PickTest(unittest.TestCase):
    def test_all_small_trees(self):
        chance = seeded(781)
        seen = {True: 0, False: 0}
        rings = set()
        for machine in some_machines(chance, 120):
            can = can_pick(machine)
            seen[can] += 1
            terms = list(small_terms(TREES, 5 if machine.many == 1 else 3, machine.many - 1))
            if can:
                self.assertIsNone(no_pick(machine))
                self.judge_picked(machine, terms)
                rings.add(self.judge_picker(machine, terms))
            else:
                self.judge_not_picked(machine, terms)
        self.assertGreater(seen[True], 15)
        self.assertGreater(seen[False], 8)
        self.assertTrue({1, 2} <= rings)

    def judge_picked(self, machine, terms):
        for term in terms:
            lots = list(lots_of(machine, term))
            lot = picked(machine, term)
            if not lots:
                self.assertIsNone(lot)
                continue
            self.assertIn(lot, lots)
            self.assertTrue(is_unmoved(term, lot))
            self.assertEqual(lot, picked_by_hand(machine, term))

    def judge_picker(self, machine, terms):
        try:
            found = picker(machine)
        except TooGreat as error:
            self.assertEqual(error.step, "nodes")
            return 0
        self.assertEqual(least(found), found)
        self.assertTrue(is_web_machine(found))
        self.assertTrue(gives(found, machine))
        self.assertEqual(ring(machine) % ring(found), 0)
        self.assertEqual(picker(least(machine)), found)
        for term in terms:
            lot = picked(machine, term)
            self.assertEqual(list(lots_of(found, term)), [] if lot is None else [lot])
        return ring(found)

    def judge_not_picked(self, machine, terms):
        tree = no_pick(machine)
        self.assertIsNone(check_term(TREES, tree, machine.many - 1))
        if size_of(tree) <= 8:
            lots = list(lots_of(machine, tree))
            self.assertTrue(lots)
            self.assertFalse(any(lot in unmoved_lots(tree) for lot in lots))
        for term in terms:
            if size_of(term) < size_of(tree):
                lots = list(lots_of(machine, term))
                self.assertTrue(not lots or any(lot in unmoved_lots(term) for lot in lots))
        for call in (picker, lambda told: picked(told, terms[0]), lambda told: picked(told, terms[-1])):
            with self.assertRaises(NotPicked):
                call(machine)

    def test_examples(self):
        row = hung(LEAF, hung(LEAF, LEAF))
        self.assertIs(can_pick(BELOW), False)
        self.assertEqual(no_pick(BELOW), STAR)
        self.assertEqual(picked(SINGLE, row), (2,))
        self.assertEqual(picked(SINGLE, STAR), (0,))
        self.assertIs(picker(SINGLE).answers(colour(STAR, [(0,)])), True)
        self.assertIs(picker(SINGLE).answers(colour(STAR, [(1,)])), False)

    def test_order_of_marks(self):
        """Here the marks are not found in ascending order, and choices are compared by ascending marks."""
        rows = tuple(tuple(p if p > 3 or q in (0, 3) else p + 4 for q in range(8)) for p in range(8))
        machine = Machine(TREES, 2, ((0, 1, 2, 3),), (rows,), (4, 5, 7))
        one, two = (0, (0,)), (0, (1,))
        term = hung(hung(one, two), one)
        self.assertEqual(picked_by_hand(machine, term), (1, 2))
        self.assertEqual(picked(machine, term), (1, 2))
        self.assertEqual(list(lots_of(picker(machine), term)), [(1, 2)])
        term = hung(hung(two, hung(two, two)), hung(one, hung(two, hung(one, one))))
        self.assertEqual(picked_by_hand(machine, term), (1, 2, 3, 4))
        self.assertEqual(picked(machine, term), (1, 2, 3, 4))

    def test_great_trees(self):
        chance = seeded(782)
        machine = machine_of(("all", "x", ("or", ("in", "x", "X"), ("to", "x", "X"))), TREES)
        found = picker(machine)
        for _ in range(15):
            term = chance_term(chance, TREES, 200, 0)
            lot = picked(machine, term)
            self.assertIs(found.answers(colour(term, [lot])), True)
            self.assertIs(machine.answers(colour(term, [lot])), True)
            other = lot[:-1] if len(lot) > 1 else (0, 1)
            self.assertIs(found.answers(colour(term, [other])), False)
        small = chance_term(chance, TREES, 7, 0)
        self.assertEqual(picked(machine, small), picked_by_hand(machine, small))
        chain = LEAF
        for _ in range(199):
            chain = (0, LEAF, chain)
        self.assertIs(machine.answers(colour(chain, [picked(machine, chain)])), True)

    def test_nothing_fits(self):
        machine = machine_of(("and", ("in", "X", "none"), ("to", "X", "X")), TREES)
        self.assertIs(can_pick(machine), True)
        self.assertIsNone(picked(machine, STAR))
        self.assertEqual(picker(machine).states, 1)

    def test_at_most_one_lot_fits(self):
        for saying in (
            ("in", "every", "X"), ("in", "X", "none"),
            ("and", ("count", "X", 1, 2, 1), ("not", ("to", "every", "X"))),
            ("and", ("all", "x", ("or", ("in", "x", "X"), ("to", "x", "every"))), ("not", ("to", "X", "every"))),
        ):
            machine = machine_of(saying, TREES)
            self.assertEqual(picker(machine), machine)

    def test_unions(self):
        """Point 83: where unions fit, some machine picks, and the greatest lot is picked by a saying."""
        for saying in (
            ("not", ("in", "X", "none")), ("to", "every", "X"), ("not", ("to", "X", ("-", "every", "X"))),
            ("all", "x", ("or", ("in", "x", "X"), ("to", "x", "X"))), ("in", "Y", "X"),
        ):
            names = ["Y", "X"]
            machine = machine_of(saying, TREES, names=names)
            self.assertIs(can_pick(machine), True)
            greatest = machine_of(greatest_saying(saying, "X"), TREES, names=names)
            for term in small_terms(TREES, 3, 1):
                lots = list(lots_of(machine, term))
                union = tuple(sorted(set().union(*lots)))
                self.assertEqual(list(lots_of(greatest, term)), [union] if lots else [])


class PickNodesTest(unittest.TestCase):
    def test_bound(self):
        chance = seeded(783)
        sizes = set()
        for machine in some_machines(chance, 70):
            if not can_pick(machine) or machine.many > 1:
                continue
            many = pick_nodes_by_hand(least(machine), 24)
            if many is None:
                continue
            sizes.add(many)
            with patch("lotsayings.picks.MOST_PICK_NODES", many):
                found = picker(machine)
            self.assertEqual(found, picker(machine))
            with patch("lotsayings.picks.MOST_PICK_NODES", many - 1):
                with self.assertRaises(TooGreat) as caught:
                    picker(machine)
                self.assertEqual(caught.exception.step, "nodes")
        self.assertGreater(len(sizes), 5)

    def test_one_node_more_than_a_thousand(self):
        """The bits of the root, and whether its number of children is odd."""
        rows = tuple((p + 8 if p < 8 else p - 8,) * 16 for p in range(16))
        machine = Machine(TREES, 3, (tuple(range(8)),), (rows,), (3, 4, 5, 8, 10))
        table = MarkTable(machine)
        self.assertIs(can_pick(machine), True)
        self.assertEqual(len(Nodes(PickNodes(table), 1001).all_nodes), 1001)
        with self.assertRaises(TooGreat) as caught:
            picker(machine)
        self.assertEqual(caught.exception.step, "nodes")
        with patch("lotsayings.picks.MOST_PICK_NODES", 1001):
            found = picker(machine)
        leaf = (0, (0, 1))
        for term in (leaf, hung(leaf, leaf), hung(leaf, (0, (1, 1)), times=2)):
            lot = picked(machine, term)
            self.assertEqual(list(lots_of(found, term)), [] if lot is None else [lot])

    def test_thousand_nodes(self):
        chance = seeded(784)
        seen = set()
        for machine in some_machines(chance, 150):
            if not can_pick(machine):
                continue
            table = MarkTable(machine)
            many = len(Nodes(PickNodes(table), 5000).all_nodes)
            if many > 1000:
                with self.assertRaises(TooGreat) as caught:
                    picker(machine)
                self.assertEqual(caught.exception.step, "nodes")
            elif many > 300:
                self.assertLessEqual(picker(machine).states, 300)
            seen.add((many > 300, many > 1000))
        self.assertEqual(len(seen), 3)


class GreatestTest(unittest.TestCase):
    def test_word_for_word(self):
        saying = ("not", ("to", "X", "X"))
        found = greatest_saying(saying, "X")
        self.assertEqual(
            found, ("and", saying, ("all", "Z", ("or", ("not", ("not", ("to", "Z", "Z"))), ("in", "Z", "X"))))
        )
        bound = ("some", "Z", ("all", "Z1", ("in", ("|", "Z", "Z0"), "Z1")))
        found = greatest_saying(bound, "Z0")
        self.assertEqual(found[2][1], "Z2")
        self.assertEqual(found[2][2][1], ("not", ("some", "Z", ("all", "Z1", ("in", ("|", "Z", "Z2"), "Z1")))))
        self.assertEqual(found[2][2][2], ("in", "Z2", "Z0"))
        self.assertEqual(greatest_saying(("in", "Y", "Y"), "Z")[2], (
            "all", "Z0", ("or", ("not", ("in", "Y", "Y")), ("in", "Z0", "Z"))
        ))
        self.assertEqual(greatest_saying(("in", "x", "x"), "x")[2][2], ("or", ("not", ("in", "Z", "Z")), ("in", "Z", "x")))

    def test_meaning(self):
        chance = seeded(785)
        for _ in range(60):
            saying = chance_saying(chance, ["X", "Y"], chance.randint(0, 2))
            found = greatest_saying(saying, "X")
            self.assertIsNone(check_saying(found))
            term = chance_term(chance, TREES, chance.randint(1, 4), 1)
            web = web_of(TREES, term)
            lots = {"Y": tracks_of(term)[0]}
            fits = fitting(saying, web, "X", lots)
            best = [lot for lot in fits if all(set(other) <= set(lot) for other in fits)]
            self.assertEqual(fitting(found, web, "X", lots), best)

    def test_refusals_in_their_order(self):
        with self.assertRaises(BadSaying) as caught:
            greatest_saying(("in", "X", 5), 7)
        self.assertEqual(caught.exception.path, (2,))
        names = ["Z"] + ["Z" + str(k) for k in range(100)]
        full = both_of(*[("in", name, "X") for name in names])
        for wrong in ("every", None, "X111", 7):
            with self.assertRaises(BadName) as caught:
                greatest_saying(full, wrong)
            self.assertEqual(caught.exception.name, wrong)
        with self.assertRaises(TooMany) as caught:
            greatest_saying(full, "X")
        self.assertEqual(caught.exception.which, "names")
        nearly = both_of(*[("in", name, "X") for name in names[:-1]])
        self.assertEqual(greatest_saying(nearly, "X")[2][1], "Z99")
        with self.assertRaises(TooMany):
            greatest_saying(nearly, "Z99")
        bound = ("in", "X", "X")
        for name in names[:50]:
            bound = ("some", name, bound)
        self.assertEqual(greatest_saying(bound, "X")[2][1], "Z49")


class RefusalTest(unittest.TestCase):
    def test_order(self):
        chance = seeded(786)
        calls = [can_pick, no_pick, picker, lambda machine: picked(machine, "no term")]
        for call in calls:
            for bench in (Bench.boughs(), Bench.cotrees(), Bench.narrow_rows()):
                with self.assertRaises(NotOnTrees):
                    call(chance_machine(chance, bench, 0, 3))
            with self.assertRaises(OtherTracks):
                call(Machine(TREES, 0, ((0,),), (((1, 0), (1, 0)),), (1,)))
            with self.assertRaises(NotWeb):
                call(Machine(TREES, 1, ((0, 0),), (((1, 0), (1, 0)),), (1,)))
        great = turning((1, 3, 1, 1), 2)
        for call in calls[:3] + [lambda machine: picked(machine, (0, (1,)))]:
            with self.assertRaises(TooGreat) as caught:
                call(great)
            self.assertEqual(caught.exception.step, "nodes")
        for machine in (great, BELOW):
            leaf = (0, (0,) * machine.many)
            with self.assertRaises(BadTerm) as caught:
                picked(machine, (0, (0, (0,) * (machine.many - 1)), leaf))
            self.assertEqual(caught.exception.path, (1,))
        for term in (LEAF, STAR, hung(LEAF, LEAF)):
            with self.assertRaises(NotPicked):
                picked(BELOW, term)
        with self.assertRaises(NotPicked):
            picker(BELOW)

    def test_machines_that_are_alike(self):
        chance = seeded(787)
        for _ in range(20):
            base = chance_web_machine(chance, 1, [(chance.randint(0, 1), chance.randint(1, 2))])
            double = Machine(
                TREES, 1, base.leaves,
                (tuple(tuple(x + base.states * (p % 2) for x in row * 2) for p, row in enumerate(base.rows[0] * 2)),),
                tuple(sorted([x for x in base.accepted] + [x + base.states for x in base.accepted])),
            )
            if least(double) != least(base):
                self.fail("the machines are not alike")
            self.assertEqual(can_pick(double), can_pick(base))
            if can_pick(base):
                self.assertEqual(picker(double), picker(base))
                for lot in all_lots(1):
                    self.assertEqual(picker(base).answers(with_bit(LEAF, 0, lot)), lot == picked(double, LEAF))


if __name__ == "__main__":
    unittest.main()
