import unittest
from collections import Counter
from unittest.mock import patch

from lotsayings.benches import Bench
from lotsayings.compiler import machine_of
from lotsayings.errors import BadNumber, LotError, NotOnTrees, NotWeb, OtherTracks, TooGreat, TooMany
from lotsayings.gathers import Gather
from lotsayings.hanging import is_web_machine
from lotsayings.leasts import least
from lotsayings.machines import Machine
from lotsayings.partings import between, inseparable, is_parted, least_parting, parting
from lotsayings.rings import ring, steps_of
from lotsayings.sayings import counts_of, is_plain
from lotsayings.steps import common
from lotsayings.terms import hung
from lotsayings.verdicts import gives, never
from tests.helpers import (
    chance_cuts, chance_machine, chance_saying, chance_term, chance_web_machine, children_by_web, fold, seeded,
    small_terms,
)

TREES = Bench.trees()
LEAF = (0, ())
LAST = Machine(TREES, 0, ((0,),), (((1, 0), (1, 0)),), (1,))
NEVER = Machine(TREES, 0, ((0,),), (((0,),),), ())


def enough(machine, kind):
    """The number N_C of point 68."""
    runs = [max(steps_of(machine, p, q)[0] for p in range(machine.states)) for q in kind]
    return 1 + sum(max(0, run - 1) for run in runs)


def hang(gather, base, kind, n):
    """HANG(P, C, n) of point 68."""
    if n >= enough(gather.machine, kind):
        return gather.some_of(base, kind, n % gather.d)
    for _ in range(n):
        base = gather.one(base, kind)
    return base


def kind_by_hand(gather, term):
    """The kind of a tree as point 68 defines it."""
    children = children_by_web(TREES, term)
    letters = []

    def leaves(part):
        if len(part) == 2:
            letters.append(sum(bit << k for k, bit in enumerate(part[1])))
        else:
            leaves(part[1])
            leaves(part[2])

    leaves(term)

    def kind_of(place):
        base = (gather.machine.leaves[0][letters[place]],)
        for kind, n in Counter(kind_of(child) for child in children[place]).items():
            base = hang(gather, base, kind, n)
        return base

    return kind_of(0)


def cut_by_hand(gather, kind):
    """The numbers t_C and d_C of point 68, told by all numbers up to some beyond N_C."""
    most = enough(gather.machine, kind) + 3 * gather.d
    rows = [[hang(gather, base, kind, n) for base in gather] for n in range(most)]
    for d in range(1, gather.d + 1):
        alike = [rows[n] == rows[n + d] for n in range(most - d)]
        if all(alike[-gather.d:]):
            return next(t for t in range(most) if all(alike[t:])), d


def census_by_hand(gather, most):
    """The number of census nodes of trees; None if there are more than most."""
    machine = gather.machine
    cuts = {}
    kinds = {}
    todo = [(k, ()) for k in range(len(machine.leaves[0]))]
    known = {}
    while todo:
        for node in todo:
            base = (machine.leaves[0][node[0]],)
            for kind, n in node[1]:
                base = hang(gather, base, kind, n)
            known[node] = base
            kinds[base] = True
        if len(known) > most:
            return None
        fresh = {}
        for k, pairs in known:
            for kind in kinds:
                t, d = cuts[kind] if kind in cuts else cuts.setdefault(kind, cut_by_hand(gather, kind))
                counts = dict(pairs)
                counts[kind] = fold(counts.get(kind, 0) + 1, t, d)
                node = (k, tuple(sorted(pair for pair in counts.items() if pair[1])))
                if node not in known:
                    fresh[node] = True
        todo = list(fresh)
    return len(known)


def apart_from(chance, machine):
    """A chance machine that answers no tree True that the machine answers True."""
    other = chance_web_machine(chance, machine.many, [(chance.randint(0, 2), chance.randint(1, 4))])
    return other & ~machine


class PartingTest(unittest.TestCase):
    def judge(self, one, two, d):
        whole, first, second = common(one, two)
        gather = Gather(whole, d)
        found = inseparable(one, two, d)
        self.assertEqual(found, gather.meets(first, second))
        self.assertIs(is_parted(one, two, d), found is None)
        machine = parting(one, two, d)
        if found is not None:
            self.assertIsNone(machine)
            return False
        self.assertEqual(least(machine), machine)
        self.assertTrue(is_web_machine(machine))
        self.assertEqual(d % ring(machine), 0)
        self.assertTrue(gives(one, machine))
        self.assertTrue(gives(machine, ~two))
        chance = seeded(d)
        for size in (1, 2, 3, 4, 6, 9, 12):
            term = chance_term(chance, TREES, size, one.many)
            kind = kind_by_hand(gather, term)
            self.assertIn(kind, gather)
            self.assertIn(whole.state(term), kind)
            self.assertIs(machine.answers(term), bool(set(kind) & set(first)))
        return True

    def test_chance_machines(self):
        chance = seeded(661)
        seen = Counter()
        for _ in range(45):
            one = chance_web_machine(chance, chance.randint(0, 1), chance_cuts(chance)[:2])
            two = apart_from(chance, one)
            for d in (1, 2, 3, 4):
                try:
                    seen[self.judge(one, two, d), d] += 1
                except LotError as error:
                    seen[type(error).__name__, getattr(error, "which", getattr(error, "step", None))] += 1
        for d in (1, 2, 3, 4):
            self.assertGreater(seen[True, d], 3)
            self.assertGreater(seen[False, d], 3)

    def test_many_equal_children(self):
        rows = tuple(tuple((4 if p == 6 else p + 1) if q == 0 else p for q in range(7)) for p in range(7))
        one = Machine(TREES, 0, ((0,),), (rows,), (5,))
        for d in (3, 6):
            machine = parting(one, ~one, d)
            self.assertEqual(machine, least(one))
            for many in range(16):
                star = hung(LEAF, LEAF, times=many)
                self.assertIs(machine.answers(star), many in (5, 8, 11, 14))
        self.assertIsNone(parting(one, ~one, 2))

    def test_against_the_contrary(self):
        chance = seeded(662)
        for _ in range(60):
            machine = chance_web_machine(chance, chance.randint(0, 1), chance_cuts(chance)[:2])
            for d in range(1, 7):
                try:
                    self.assertIs(is_parted(machine, ~machine, d), d % ring(machine) == 0)
                    if d % ring(machine) == 0:
                        self.assertEqual(parting(machine, ~machine, d), least(machine))
                except (TooMany, TooGreat):
                    pass
            least_d = least_parting(machine, ~machine)
            self.assertEqual(least_d, ring(machine) if ring(machine) < 7 else None)

    def test_told_facts(self):
        chance = seeded(663)
        seen = set()
        for _ in range(60):
            one = chance_web_machine(chance, 1, [(chance.randint(0, 1), chance.randint(1, 3))])
            two = chance_web_machine(chance, 1, [(chance.randint(0, 1), chance.randint(1, 3))])
            if chance.random() < 0.7:
                two = two & ~one
            parted = [d for d in range(1, 7) if is_parted(one, two, d)]
            for d in parted:
                self.assertTrue(set(range(d, 7, d)) <= set(parted))
                self.assertIs(is_parted(two, one, d), True)
            if not never(one & two):
                self.assertEqual(parted, [])
            else:
                for told in (ring(one), ring(two)):
                    self.assertTrue(told > 6 or told in parted)
            self.assertEqual(least_parting(one, two), min(parted, default=None))
            seen.add(least_parting(one, two))
        self.assertTrue({None, 1, 2, 3} <= seen)

    def test_plain_sayings_between(self):
        """If a plain saying parts two machines, they are parted by its counts."""
        chance = seeded(664)
        many = 0
        for _ in range(150):
            saying = chance_saying(chance, ["X", "x"], chance.randint(0, 2))
            if not is_plain(saying) or counts_of(saying) > 6:
                continue
            try:
                middle = machine_of(saying, TREES, names=["X", "x"])
                one = middle & chance_web_machine(chance, 2, [(1, 2)])
                two = chance_web_machine(chance, 2, [(0, 3)]) & ~middle
                self.assertIs(is_parted(one, two, counts_of(saying)), True)
                self.assertLessEqual(least_parting(one, two), counts_of(saying))
            except (TooGreat, TooMany):
                continue
            many += 1
        self.assertGreater(many, 20)

    def test_trees_that_are_not_parted(self):
        """Point 67: trees built along made are alike for plain sayings with counts by d and few states."""
        chance = seeded(665)
        many = 0
        for _ in range(60):
            one = chance_web_machine(chance, 0, [(chance.randint(0, 1), chance.randint(1, 3))])
            two = apart_from(chance, one)
            d = chance.randint(1, 3)
            states = inseparable(one, two, d)
            if states is None:
                continue
            whole = common(one, two)[0]
            gather = Gather(whole, d)
            trees = trees_along(gather, states, 7)
            self.assertEqual(sorted(trees), list(states))
            for state, tree in trees.items():
                self.assertEqual(whole.state(tree), state)
            for _ in range(15):
                t = chance.randint(0, 2)
                counts = ("arrows", "x", "every", chance.randrange(t + d), t, d)
                saying = (chance.choice(["some", "all"]), "x", counts)
                machine = machine_of(saying, TREES)
                if machine.states <= 7:
                    self.assertEqual(len({machine.answers(tree) for tree in trees.values()}), 1)
                    many += 1
        self.assertGreater(many, 20)


def trees_along(gather, states, b):
    """A tree for each state in the set, as point 67 builds them."""
    made = gather.made(states)
    table = gather.machine.rows[0]
    if made[0] == "leaf":
        return {states[0]: (0, tuple(made[1] >> k & 1 for k in range(gather.machine.many)))}
    bases, kinds = [trees_along(gather, part, b) for part in made[1:3]]
    if made[0] == "one":
        return {table[p][c]: (0, t, u) for p, t in bases.items() for c, u in kinds.items()}
    found = {}
    rows = dict(bases)
    for n in range(1, 60):
        rows = {table[p][c]: (0, t, u) for p, t in rows.items() for c, u in kinds.items()}
        if n >= b and n % gather.d == made[3]:
            found.update(rows)
    return found


class BetweenTest(unittest.TestCase):
    def test_it_lies_between(self):
        chance = seeded(666)
        seen = set()
        for _ in range(60):
            one = chance_web_machine(chance, 1, [(chance.randint(0, 1), chance.randint(1, 3))])
            two = one | chance_web_machine(chance, 1, [(chance.randint(0, 1), chance.randint(1, 3))])
            for d in (1, 2, 3):
                try:
                    found = between(one, two, d)
                except TooGreat:
                    self.assertIs(is_parted(one, ~two, d), True)
                    continue
                self.assertIs(found is not None, is_parted(one, ~two, d))
                if found is not None:
                    self.assertEqual(found, parting(one, ~two, d))
                    self.assertTrue(gives(one, found) and gives(found, two))
                    self.assertEqual(d % ring(found), 0)
                seen.add(found is None)
        self.assertEqual(seen, {True, False})

    def test_refusals_behind_d(self):
        odd = machine_of(("count", "every", 1, 0, 2), TREES)
        with self.assertRaises(BadNumber) as caught:
            between(odd, ~odd, 7)
        self.assertEqual(caught.exception.which, "d")
        with self.assertRaises(BadNumber) as caught:
            between(odd, ~odd, 2)
        self.assertEqual(caught.exception.which, "gives")
        great = counting(97)
        with self.assertRaises(TooGreat) as caught:
            between(great, counting(101), 1)
        self.assertEqual(caught.exception.step, "pairs")
        self.assertIsNone(between(odd, odd, 1))
        self.assertEqual(between(odd, odd, 2), odd)


def counting(states):
    table = tuple(tuple((p + q + 1) % states for q in range(states)) for p in range(states))
    return Machine(TREES, 0, ((0,),), (table,), (0,))


def leafy(most, many):
    """Counts the children without children up to a bound; others change nothing."""
    rows = tuple(tuple(min(p + 1, most) if q == 0 else p for q in range(most + 1)) for p in range(most + 1))
    return Machine(TREES, many, ((0,) * 2 ** many,), (rows,), (most,))


class RefusalTest(unittest.TestCase):
    def test_order(self):
        chance = seeded(667)
        odd = machine_of(("count", "every", 1, 0, 2), TREES)
        bough = chance_machine(chance, Bench.boughs(), 1, 2)
        for call in (is_parted, inseparable, parting, between, lambda one, two, _: least_parting(one, two)):
            for pair in ((bough, odd), (odd, bough), (bough, bough)):
                with self.assertRaises(NotOnTrees):
                    call(*pair, 0)
            with self.assertRaises(OtherTracks):
                call(LAST, machine_of(("in", "X", "X"), TREES), 0)
            for pair in ((LAST, odd), (odd, LAST), (LAST, LAST)):
                with self.assertRaises(NotWeb):
                    call(*pair, 0)
        for call in (is_parted, inseparable, parting, between):
            for d in (0, 7, -1, True, None, "2"):
                with self.assertRaises(BadNumber) as caught:
                    call(counting(97), counting(101), d)
                self.assertEqual(caught.exception.which, "d")
        for call in (is_parted, inseparable, parting, lambda one, two, _: least_parting(one, two)):
            with self.assertRaises(TooGreat) as caught:
                call(counting(97), counting(101), 1)
            self.assertEqual(caught.exception.step, "pairs")

    def test_too_many_sets(self):
        many = 0
        chance = seeded(668)
        for _ in range(300):
            machine = chance_web_machine(chance, 0, [(1, 3), (0, 5)][:chance.randint(1, 2)] + [(0, 6)])
            try:
                Gather(least(machine), 1)
            except TooMany as error:
                self.assertEqual(error.which, "sets")
                for call in (is_parted, inseparable, parting):
                    with self.assertRaises(TooMany) as caught:
                        call(machine, ~machine, 1)
                    self.assertEqual(caught.exception.which, "sets")
                with self.assertRaises(TooMany):
                    least_parting(machine, ~machine)
                many += 1
                if many == 3:
                    break
        self.assertGreater(many, 0)

    def test_three_hundred_census_nodes(self):
        never = Machine(TREES, 2, ((0,) * 4,), (((0,),),), ())
        found = parting(leafy(74, 2), never, 1)
        self.assertEqual(found, least(leafy(74, 2)))
        with self.assertRaises(TooGreat) as caught:
            parting(leafy(75, 2), never, 1)
        self.assertEqual(caught.exception.step, "nodes")
        self.assertIs(is_parted(leafy(75, 2), never, 1), True)
        always = ~never
        self.assertIsNone(parting(leafy(75, 2), always, 1))
        with self.assertRaises(TooGreat) as caught:
            between(leafy(75, 2), always, 1)
        self.assertEqual(caught.exception.step, "nodes")

    def test_number_of_census_nodes(self):
        chance = seeded(670)
        sizes = set()
        for _ in range(100):
            many = chance.randint(0, 1)
            one = chance_web_machine(chance, many, [(chance.randint(0, 1), chance.randint(1, 3))] * chance.randint(1, 2))
            two = apart_from(chance, one) & chance_web_machine(chance, many, [(0, 2)])
            d = chance.randint(1, 6)
            try:
                if not is_parted(one, two, d):
                    continue
            except LotError:
                continue
            if Gather(common(one, two)[0], d).number > 20:
                continue
            nodes = census_by_hand(Gather(common(one, two)[0], d), 70)
            if nodes is None:
                continue
            sizes.add(nodes)
            with patch("lotsayings.partings.MOST_NODES", nodes):
                found = parting(one, two, d)
            self.assertEqual(found, parting(one, two, d))
            with patch("lotsayings.partings.MOST_NODES", nodes - 1):
                with self.assertRaises(TooGreat):
                    parting(one, two, d)
        self.assertGreater(len(sizes), 5)

    def test_nothing_is_answered_true(self):
        self.assertEqual(parting(NEVER, NEVER, 1), NEVER)
        self.assertEqual(parting(NEVER, ~NEVER, 3), NEVER)
        self.assertEqual(parting(~NEVER, NEVER, 3), ~NEVER)
        self.assertIsNone(parting(~NEVER, ~NEVER, 6))
        self.assertEqual(inseparable(~NEVER, ~NEVER, 6), (0,))


class AllTreesTest(unittest.TestCase):
    def test_kinds_of_all_small_trees(self):
        chance = seeded(669)
        many = 0
        for _ in range(25):
            one = chance_web_machine(chance, 1, [(chance.randint(0, 1), 2), (1, 1)])
            d = chance.choice([2, 4, 6])
            two = ~one
            try:
                if parting(one, two, d) is None:
                    continue
            except TooGreat:
                continue
            many += 1
            whole, first, _ = common(one, two)
            gather = Gather(whole, d)
            machine = parting(one, two, d)
            for term in small_terms(TREES, 4, 1):
                self.assertIs(machine.answers(term), bool(set(kind_by_hand(gather, term)) & set(first)))
        self.assertGreater(many, 5)


if __name__ == "__main__":
    unittest.main()
