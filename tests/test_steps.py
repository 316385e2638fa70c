import unittest

from lotsayings.benches import Bench
from lotsayings.errors import BadNumber, OtherBench, OtherTracks, TooGreat
from lotsayings.leasts import in_order, least
from lotsayings.machines import Machine
from lotsayings.steps import common, moved_letters, pairs, rows_without, sets_without
from lotsayings.terms import colour, size_of, tracks_of
from tests.helpers import NAMED, WIDE, all_lots, chance_machine, chance_term, seeded, small_terms, with_bit
from tests.test_machines import circle

TREES = Bench.trees()


def told_apart_by_number(bench, many, states):
    """A machine with a track: a place counts 1 in the track and 0 else, up to states - 1."""
    leaves = tuple(tuple(bits & 1 for bits in range(2 ** many)) for _ in bench.starts)
    table = tuple(tuple(min(p + q, states - 1) for q in range(states)) for p in range(states))
    return Machine(bench, many, leaves, (table,) * len(bench), (states - 1,))


def number_by_hand(machine, term, track):
    size = size_of(term)
    return sum(machine.answers(with_bit(term, track, lot)) for lot in all_lots(size))


class PairsTest(unittest.TestCase):
    def test_words(self):
        chance = seeded(26)
        for bench in list(NAMED.values()) + [WIDE]:
            one = chance_machine(chance, bench, 1, 4)
            two = chance_machine(chance, bench, 1, 4)
            self.assertEqual(pairs(one, two, "and"), one & two)
            self.assertEqual(pairs(one, two, "or"), one | two)
            self.assertEqual(pairs(one, two, "xor"), one ^ two)
            for term in small_terms(bench, 3, 1):
                both = pairs(one, two, "and").answers(term)
                self.assertEqual(both, one.answers(term) and two.answers(term))

    def test_hundred_states(self):
        self.assertEqual(pairs(circle(25), circle(4), "and").states, 100)
        for word in ("and", "or", "xor"):
            with self.assertRaises(TooGreat) as caught:
                pairs(circle(101), circle(1), word)
            self.assertEqual(caught.exception.step, "pairs")
        self.assertEqual(pairs(circle(100), circle(1), "or").states, 1)

    def test_it_is_done_on_least_machines(self):
        great = circle(300).accepting(tuple(range(0, 300, 2)))
        self.assertEqual(pairs(great, great, "and").states, 2)

    def test_errors_in_their_order(self):
        other = Machine(Bench.narrow_rows(), 1, ((0, 0),), (((0,),),), ())
        for word in ("not", "AND", None, 5, True, ""):
            with self.assertRaises(BadNumber) as caught:
                pairs(circle(3), other, word)
            self.assertEqual(caught.exception.which, "word")
        with self.assertRaises(OtherBench):
            pairs(circle(3), other, "and")
        with self.assertRaises(OtherTracks):
            pairs(circle(101), told_apart_by_number(TREES, 1, 3), "or")


class SetsTest(unittest.TestCase):
    def test_against_all_lots(self):
        chance = seeded(27)
        for bench in list(NAMED.values()) + [WIDE]:
            for many in (1, 2):
                machine = chance_machine(chance, bench, many, 3)
                for track in range(many):
                    made = sets_without(machine, track)
                    self.assertEqual(made.many, many - 1)
                    self.assertEqual(least(made), made)
                    for term in small_terms(bench, 3, many - 1):
                        self.assertEqual(made.answers(term), number_by_hand(machine, term, track) > 0)

    def test_told_equalities(self):
        chance = seeded(28)
        for bench in list(NAMED.values()) + [WIDE]:
            one = chance_machine(chance, bench, 2, 3)
            two = chance_machine(chance, bench, 2, 2)
            self.assertEqual(sets_without(sets_without(one, 0), 0), sets_without(sets_without(one, 1), 0))
            self.assertEqual(sets_without(one | two, 1), sets_without(one, 1) | sets_without(two, 1))

    def test_hundred_states(self):
        # The set of n places holds the numbers 0 .. n, up to the last state: one set less than states.
        self.assertEqual(sets_without(told_apart_by_number(TREES, 1, 101), 0).states, 100)
        with self.assertRaises(TooGreat) as caught:
            sets_without(told_apart_by_number(TREES, 1, 102), 0)
        self.assertEqual(caught.exception.step, "sets")

    def test_errors(self):
        machine = told_apart_by_number(TREES, 2, 3)
        for track in (2, -1, True, None):
            with self.assertRaises(BadNumber) as caught:
                sets_without(machine, track)
            self.assertEqual(caught.exception.which, "track")
        with self.assertRaises(BadNumber):
            sets_without(circle(3), 0)


class RowsTest(unittest.TestCase):
    def test_against_all_lots(self):
        chance = seeded(29)
        for bench in list(NAMED.values()) + [WIDE]:
            for many in (1, 2):
                machine = chance_machine(chance, bench, many, 2)
                for track in range(many):
                    for d in (1, 2, 3):
                        self.judge(machine, track, d)

    def judge(self, machine, track, d):
        made = []
        try:
            made = [rows_without(machine, track, a, d) for a in range(d)]
        except TooGreat as error:
            self.assertEqual(error.step, "rows")
            return
        for part in made:
            self.assertEqual(least(part), part)
        for term in small_terms(machine.bench, 3, machine.many - 1):
            number = number_by_hand(machine, term, track)
            self.assertEqual([part.answers(term) for part in made], [number % d == a for a in range(d)])

    def test_divisors(self):
        machine = told_apart_by_number(TREES, 1, 3)
        by_six = [rows_without(machine, 0, a, 6) for a in range(6)]
        for d in (1, 2, 3):
            for a in range(d):
                whole = by_six[a]
                for k in range(a + d, 6, d):
                    whole = whole | by_six[k]
                self.assertEqual(whole, rows_without(machine, 0, a, d))

    def test_hundred_states(self):
        # The rows tell the number of places by so many, and 2 to its power by 5, which comes again by 4.
        def free(states):
            table = tuple(tuple((p + q + 1) % states for q in range(states)) for p in range(states))
            return Machine(TREES, 1, ((0, 0),), (table,), (states - 1,))

        def capped(states):
            table = tuple(tuple(min(p + q + 1, states - 1) for q in range(states)) for p in range(states))
            return Machine(TREES, 1, ((0, 0),), (table,), (states - 1,))

        # One row for each state but the last one, which has two.
        self.assertEqual(rows_without(capped(99), 0, 1, 3).states, 100)
        with self.assertRaises(TooGreat) as caught:
            rows_without(capped(100), 0, 1, 3)
        self.assertEqual(caught.exception.step, "rows")
        self.assertEqual(rows_without(free(25), 0, 1, 5).states, 100)
        with self.assertRaises(TooGreat) as caught:
            rows_without(free(27), 0, 1, 5)
        self.assertEqual(caught.exception.step, "rows")

    def test_errors_in_their_order(self):
        machine = told_apart_by_number(TREES, 1, 3)
        wrong = [
            ((1, 9, 9), "track"), ((True, 9, 9), "track"), ((0, 9, 7), "d"), ((0, 9, 0), "d"), ((0, 9, True), "d"),
            ((0, 3, 3), "a"), ((0, -1, 3), "a"), ((0, False, 3), "a"), ((0, 1, 1), "a"),
        ]
        for args, which in wrong:
            with self.assertRaises(BadNumber) as caught:
                rows_without(machine, *args)
            self.assertEqual(caught.exception.which, which)


class LettersTest(unittest.TestCase):
    def test_answers(self):
        chance = seeded(30)
        for bench in list(NAMED.values()) + [WIDE]:
            for _ in range(6):
                many = chance.randint(0, 3)
                wide = chance.randint(1, 4)
                machine = chance_machine(chance, bench, many, 4)
                places = [chance.randrange(wide) for _ in range(many)]
                made = moved_letters(machine, places, wide)
                self.assertEqual((made.many, least(made)), (wide, made))
                self.assertEqual(made, moved_letters(machine, tuple(places), wide))
                for _ in range(15):
                    term = chance_term(chance, bench, chance.randint(1, 7), wide)
                    lots = tracks_of(term)
                    old = colour(term, [lots[place] for place in places])
                    self.assertEqual(made.answers(term), machine.answers(old))

    def test_told_facts(self):
        machine = chance_machine(seeded(31), TREES, 2, 4)
        twice = moved_letters(moved_letters(machine, (1, 0), 3), (2, 0, 1), 4)
        self.assertEqual(twice, moved_letters(machine, (0, 2), 4))
        self.assertEqual(moved_letters(machine, (0, 1), 2), least(machine))
        self.assertEqual(sets_without(moved_letters(machine, (0, 1), 3), 2), least(machine))
        self.assertEqual(moved_letters(circle(4), (), 0), least(circle(4)))
        self.assertEqual(moved_letters(circle(300), [], 2).states, 300)

    def test_errors_in_their_order(self):
        machine = chance_machine(seeded(32), TREES, 2, 3)
        for many in (-1, 6, True, None):
            with self.assertRaises(BadNumber) as caught:
                moved_letters(machine, None, many)
            self.assertEqual(caught.exception.which, "many")
        for places in (None, (0,), (0, 1, 2), (0, 3), (0, -1), (0, True), "01", {0: 1, 1: 2}):
            with self.assertRaises(BadNumber) as caught:
                moved_letters(machine, places, 3)
            self.assertEqual(caught.exception.which, "places")
        with self.assertRaises(BadNumber):
            moved_letters(machine, (0, 0), 0)


class CommonTest(unittest.TestCase):
    def test_numbering_and_states(self):
        chance = seeded(33)
        for bench in list(NAMED.values()) + [WIDE]:
            one = chance_machine(chance, bench, 1, 4)
            two = chance_machine(chance, bench, 1, 5)
            found = common(one, two)
            self.assertIsInstance(found, tuple)
            machine, first, second = found
            self.assertEqual(machine.accepted, ())
            self.assertEqual(in_order(machine), machine)
            small, other = least(one), least(two)
            pairs_seen = {}
            for _ in range(200):
                term = chance_term(chance, bench, chance.randint(1, 8), 1)
                state = machine.state(term)
                self.assertEqual(state in first, one.answers(term))
                self.assertEqual(state in second, two.answers(term))
                pair = (small.state(term), other.state(term))
                self.assertEqual(pairs_seen.setdefault(state, pair), pair)
            self.assertEqual(len(set(pairs_seen.values())), len(pairs_seen))
            self.assertEqual((first, second), (tuple(sorted(first)), tuple(sorted(second))))
            self.assertEqual(least(machine.accepting(first)), least(one))

    def test_errors_in_their_order(self):
        other = Machine(Bench.narrow_rows(), 1, ((0, 0),), (((0,),),), ())
        with self.assertRaises(OtherBench):
            common(circle(101), other)
        with self.assertRaises(OtherTracks):
            common(circle(101), told_apart_by_number(TREES, 1, 3))
        with self.assertRaises(TooGreat) as caught:
            common(circle(101), circle(1))
        self.assertEqual(caught.exception.step, "pairs")
        self.assertEqual(common(circle(25), circle(4))[0].states, 100)


if __name__ == "__main__":
    unittest.main()
