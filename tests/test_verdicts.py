import unittest

from lotsayings.benches import Bench
from lotsayings.compiler import machine_of
from lotsayings.errors import BadSaying, OtherBench, OtherTracks, TooGreat, TooMany
from lotsayings.leasts import least
from lotsayings.machines import Machine
from lotsayings.meanings import means
from lotsayings.sayings import both_of, free_names
from lotsayings.steps import pairs
from lotsayings.terms import size_of, tracks_of, web_of
from lotsayings.verdicts import (
    agree, always, counter_term, fitting_term, gives, giving_term, never, parting_lots, parting_term, says_same,
)
from tests.helpers import NAMED, WIDE, chance_machine, chance_saying, chance_term, seeded, small_terms

TREES = Bench.trees()


def counting(bench, states, accepted):
    """Counts places by the number of states."""
    table = tuple(tuple((p + q + 1) % states for q in range(states)) for p in range(states))
    leaves = tuple((0,) for _ in bench.starts)
    return Machine(bench, 0, leaves, tuple(table for _ in bench.joins), accepted)


def fewest_places(terms, found):
    return min([size_of(term) for term in terms if found(term)], default=None)


class VerdictTest(unittest.TestCase):
    def judge(self, term, terms, found):
        """The term is one of the found ones, and none of the told small terms with fewer places is."""
        fewest = fewest_places(terms, found)
        if term is None:
            self.assertIsNone(fewest)
        else:
            self.assertTrue(found(term))
            if fewest is not None:
                self.assertEqual(size_of(term), fewest)
            else:
                self.assertGreater(size_of(term), max(size_of(small) for small in terms))

    def test_chance_machines(self):
        chance = seeded(341)
        seen = set()
        for _ in range(150):
            bench = chance.choice(list(NAMED.values()) + [WIDE])
            many = chance.randint(0, 1)
            one = chance_machine(chance, bench, many, chance.randint(1, 5))
            luck = chance.random()
            two = chance_machine(chance, bench, many, chance.randint(1, 4))
            if luck < 0.3:
                two = least(one)
            elif luck < 0.5:
                two = pairs(one, two, "or")
            terms = list(small_terms(bench, 4 if len(bench) == 1 else 3, many))
            self.judge(parting_term(one, two), terms, lambda term: one.answers(term) != two.answers(term))
            self.judge(fitting_term(one), terms, one.answers)
            self.judge(counter_term(one), terms, lambda term: not one.answers(term))
            self.judge(giving_term(one, two), terms, lambda term: one.answers(term) and not two.answers(term))
            self.assertIs(agree(one, two), parting_term(one, two) is None)
            self.assertIs(gives(one, two), giving_term(one, two) is None)
            self.assertIs(gives(one, two), always(pairs(~one, two, "or")))
            self.assertIs(always(one), counter_term(one) is None)
            self.assertIs(never(one), fitting_term(one) is None)
            seen.add((agree(one, two), gives(one, two), always(one), never(one)))
        self.assertTrue({(True, True, False, False), (False, True, False, False)} <= seen)
        self.assertTrue(any(row[2] for row in seen) and any(row[3] for row in seen))

    def test_states_that_are_not_reached(self):
        table = ((0, 0, 2), (0, 0, 1), (1, 2, 2))
        machine = Machine(TREES, 1, ((0, 0),), (table,), (1, 2))
        self.assertIs(never(machine), True)
        self.assertIs(always(machine), False)
        self.assertIs(always(machine.accepting((0,))), True)
        self.assertIsNone(fitting_term(machine))
        self.assertEqual(size_of(counter_term(machine)), 1)

    def test_agree_is_never_too_great(self):
        one = counting(TREES, 97, (0,))
        two = counting(TREES, 101, (0,))
        self.assertIs(agree(one, two), False)
        self.assertIs(agree(two, two), True)
        self.assertIs(agree(counting(TREES, 300, (0, 150)), counting(TREES, 150, (0,))), True)
        for call in (parting_term, gives, giving_term):
            with self.assertRaises(TooGreat) as caught:
                call(one, two)
            self.assertEqual(caught.exception.step, "pairs")
        self.assertEqual(size_of(fitting_term(two)), 1)
        self.assertEqual(size_of(fitting_term(counting(TREES, 101, (100,)))), 101)

    def test_other_bench_ahead_of_other_tracks(self):
        great = counting(TREES, 101, (0,))
        for call in (agree, parting_term, gives, giving_term):
            with self.assertRaises(OtherBench):
                call(machine_of(("in", "X", "Y"), TREES), counting(Bench.boughs(), 3, (0,)))
            with self.assertRaises(OtherTracks):
                call(great, machine_of(("in", "X", "Y"), TREES))


class SayingsTest(unittest.TestCase):
    def test_chance_sayings(self):
        chance = seeded(342)
        same = 0
        for _ in range(120):
            bench = chance.choice(list(NAMED.values()) + [WIDE])
            one = chance_saying(chance, ["X", "x"], chance.randint(0, 2))
            two = chance_saying(chance, ["X", "Y"], chance.randint(0, 1))
            if chance.random() < 0.3:
                two = ("not", ("not", one))
            names = sorted(set(free_names(one) + free_names(two)))
            try:
                found = parting_lots(one, two, bench)
            except TooGreat:
                continue
            self.assertIs(says_same(one, two, bench), found is None)
            fewest = 4
            if found is None:
                same += 1
            else:
                term, web, lots = found
                self.assertIsInstance(found, tuple)
                self.assertEqual(web, web_of(bench, term))
                self.assertEqual(list(lots), names)
                self.assertEqual(tuple(lots.values()), tracks_of(term))
                if web.size < 6:
                    self.assertNotEqual(means(one, web, lots), means(two, web, lots))
                fewest = web.size
            for _ in range(20):
                term = chance_term(chance, bench, chance.randint(1, 4), len(names))
                if size_of(term) < fewest:
                    lots = dict(zip(names, tracks_of(term)))
                    web = web_of(bench, term)
                    self.assertEqual(means(one, web, lots), means(two, web, lots))
        self.assertGreater(same, 15)

    def test_fewest_places(self):
        two = ("count", "every", 2, 2, 1)
        for bench in NAMED.values():
            self.assertEqual(parting_lots(two, ("in", "every", "none"), bench)[1].size, 2)
            self.assertEqual(parting_lots(("count", "every", 4, 4, 1), ("to", "X", "none"), bench)[1].size, 4)
        self.assertIs(says_same(("to", "every", "every"), two, TREES), True)
        self.assertIs(says_same(("to", "every", "every"), two, Bench.cotrees()), False)
        self.assertIsNone(parting_lots(("to", "every", "every"), two, Bench.boughs()))

    def test_refusals_in_their_order(self):
        great = ("arrows", "A", "B", 9, 4, 6)
        six = both_of(*[("in", name, "every") for name in "ABCDEF"])
        bench = Bench.cotrees()
        for call in (says_same, parting_lots):
            with self.assertRaises(BadSaying) as caught:
                call(("not", 1), ("in", "X"), bench)
            self.assertEqual(caught.exception.path, (1,))
            with self.assertRaises(BadSaying) as caught:
                call(six, ("in", "X"), bench)
            self.assertEqual(caught.exception.path, ())
            with self.assertRaises(TooMany) as caught:
                call(great, six, bench)
            self.assertEqual(caught.exception.which, "tracks")
            with self.assertRaises(TooMany):
                call(both_of(*[("in", name, "B") for name in "ACE"]), ("in", "D", ("|", "F", "G")), bench)
            with self.assertRaises(TooGreat) as caught:
                call(great, ("some", "X", six[:1] + (six[1], six[1])), bench)
            self.assertEqual(caught.exception.step, "atom")
            with self.assertRaises(TooGreat) as caught:
                call(("in", "A", "A"), great, bench)
            self.assertEqual(caught.exception.step, "atom")
        two = ("and", ("count", "A", 9, 4, 6), ("count", "B", 9, 4, 6))
        with self.assertRaises(TooGreat) as caught:
            parting_lots(two, ("count", "C", 9, 4, 6), TREES)
        self.assertEqual(caught.exception.step, "pairs")
        self.assertIs(says_same(two, ("count", "C", 9, 4, 6), TREES), False)


if __name__ == "__main__":
    unittest.main()
