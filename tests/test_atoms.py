import unittest

from lotsayings.atoms import FIRST_CODES, atom_machine, codes_for
from lotsayings.benches import Bench
from lotsayings.errors import BadName, BadSaying, NoLot, TooGreat, TooMany
from lotsayings.leasts import least
from lotsayings.meanings import means
from lotsayings.quotients import refined
from lotsayings.shells import explored, found_first
from lotsayings.sayings import free_names
from lotsayings.terms import tracks_of, web_of
from tests.helpers import NAMED, WIDE, chance_bench, chance_single, chance_term, seeded, small_terms

TREES = Bench.trees()


class AtomTest(unittest.TestCase):
    def judge(self, machine, saying, bench, names, terms):
        self.assertEqual((machine.bench, machine.many), (bench, len(names)))
        self.assertEqual(least(machine), machine)
        for term in terms:
            lots = {name: lot for name, lot in zip(names, tracks_of(term))}
            self.assertEqual(machine.answers(term), means(saying, web_of(bench, term), lots), (saying, term))

    def test_on_all_small_terms(self):
        sayings = [
            ("in", "X", "Y"), ("to", "X", "Y"), ("to", "Y", ("-", "X", "Y")), ("count", ("|", "X", "Y"), 1, 2, 1),
            ("count", "Y", 0, 0, 2), ("arrows", "X", "Y", 1, 1, 2), ("arrows", "X", "every", 0, 0, 2),
            ("arrows", "Y", "X", 2, 2, 1),
        ]
        for bench in list(NAMED.values()) + [WIDE]:
            terms = list(small_terms(bench, 3 if len(bench) == 1 else 2, 2))
            for saying in sayings:
                for names in (["X", "Y"], ("Y", "X")):
                    try:
                        machine = atom_machine(saying, bench, names)
                    except TooGreat:
                        self.assertIs(bench, WIDE)
                        continue
                    self.judge(machine, saying, bench, names, terms)

    def test_chance_sayings(self):
        chance = seeded(34)
        benches = list(NAMED.values()) + [WIDE]
        great = 0
        for turn in range(250):
            bench = chance.choice(benches + [chance_bench(chance, chance.randint(1, 3), chance.randint(1, 3))])
            names = chance.sample(["X", "Y", "x", "Z"], 4)
            saying = chance_single(chance, names[:chance.randint(1, 3)])
            try:
                machine = atom_machine(saying, bench, names)
            except TooGreat as error:
                self.assertEqual(error.step, "atom")
                great += 1
                continue
            terms = [chance_term(chance, bench, chance.randint(1, 8), 4) for _ in range(30)]
            self.judge(machine, saying, bench, names, terms)
            self.assertLessEqual(machine.states, 100)
        self.assertLess(great, 100)

    def test_order_of_names(self):
        for saying in (("in", "X", "Y"), ("arrows", "Y", "X", 1, 2, 3)):
            one = atom_machine(saying, TREES, ("X", "Y"))
            two = atom_machine(saying, TREES, ("Y", "X"))
            self.assertEqual(one.leaves[0], tuple(two.leaves[0][k] for k in (0, 2, 1, 3)) if one.rows == two.rows
                             else one.leaves[0])
            for term in small_terms(TREES, 3, 2):
                turned = tuple(reversed(tracks_of(term)))
                web = web_of(TREES, term)
                self.assertEqual(one.answers(term), means(saying, web, dict(zip("XY", tracks_of(term)))))
                self.assertEqual(two.answers(term), means(saying, web, dict(zip("XY", turned))))

    def test_told_numbers_of_states(self):
        self.assertEqual(atom_machine(("in", "X", "Y"), TREES, ["X", "Y"]).states, 2)
        self.assertEqual(atom_machine(("to", "X", "Y"), TREES, ["X", "Y"]).states, 5)
        self.assertEqual(atom_machine(("count", "X", 1, 2, 1), TREES, ["X"]).states, 3)
        for d in range(1, 7):
            for a in range(d):
                self.assertEqual(atom_machine(("count", "X", a, 0, d), TREES, ["X"]).states, d)
        for bench in list(NAMED.values()) + [WIDE]:
            for names in ((), ("X",), ("x", "Y", "Z", "A", "B")):
                machine = atom_machine(("in", "every", "none"), bench, names)
                self.assertEqual((machine.states, machine.accepted), (1, ()))

    def test_fewer_states_than_codes(self):
        for a in range(10):
            saying = ("arrows", "X", "Y", a, 4, 6)
            for names in (("X", "Y"), ("Y", "A", "X")):
                self.assertLessEqual(atom_machine(saying, TREES, names).states, 40)
        self.assertEqual(atom_machine(("arrows", "X", "none", 0, 4, 6), WIDE, ["X"]).states, 1)
        self.assertEqual(atom_machine(("arrows", "none", "X", 9, 4, 6), WIDE, ["X"]).accepted, ())
        alike = Bench(3, (0, 1, 2), ((tuple((a, b) for a in range(3) for b in range(3)), (), (1, 2, 0), (2, 0, 1)),))
        single = Bench(1, (0,), ((((0, 0),), (), (0,), (0,)),))
        saying = ("arrows", "X", "Y", 1, 0, 4)
        self.assertEqual(
            atom_machine(saying, alike, ["X", "Y"]).states, atom_machine(saying, single, ["X", "Y"]).states
        )

    def test_too_great(self):
        with self.assertRaises(TooGreat) as caught:
            atom_machine(("arrows", "X", "Y", 9, 4, 6), Bench.cotrees(), ["X", "Y"])
        self.assertEqual(caught.exception.step, "atom")
        with self.assertRaises(TooGreat):
            atom_machine(("arrows", "X", "Y", 1, 2, 6), WIDE, ["X", "Y"])
        self.assertEqual(atom_machine(("arrows", "X", "Y", 0, 0, 4), Bench.cotrees(), ["X", "Y"]).states, 64)

    def test_hundred_states_stand(self):
        single = Bench(1, (0,), ((((0, 0),), (), (0,), (0,)),))
        for bound in (2, 3, 4):
            machine = atom_machine(("arrows", "X", "Y", 5, bound, 4), single, ["X", "Y"])
            self.assertEqual(machine.states, 100)
        join = (((0, 0), (1, 1)), ((0, 0),), (1, 1), (1, 1))
        with self.assertRaises(TooGreat):
            atom_machine(("arrows", "X", ("-", "Y", "X"), 5, 2, 4), Bench(2, (0, 1), (join,)), ["X", "Y"])

    def test_five_tracks(self):
        names = ["A", "B", "C", "D", "E"]
        terms = [chance_term(seeded(37), TREES, size, 5) for size in range(1, 9)]
        for saying in (("to", ("&", "A", "B"), ("|", "C", ("^", "D", "E"))), ("count", ("-", "E", "A"), 1, 1, 2)):
            self.judge(atom_machine(saying, TREES, names), saying, TREES, names, terms)

    def test_bound_of_hundred_states_against_all_codes(self):
        chance = seeded(135)
        seen = set()
        for _ in range(80):
            bench = chance_bench(chance, chance.randint(1, 3), 1)
            t = chance.randint(0, 4)
            d = chance.randint(1, 6)
            saying = ("arrows", "X", chance.choice(["Y", "X", "every"]), chance.randrange(t + d), t, d)
            spec = codes_for(saying, bench, ("X", "Y"))
            if len(found_first(spec, 400)) == 400:
                continue
            codes, _, tables = explored(spec, None, "atom")
            states = max(refined(tables, [spec.accepts(code) for code in codes])) + 1
            if states > 100:
                with self.assertRaises(TooGreat):
                    atom_machine(saying, bench, ("X", "Y"))
            else:
                self.assertEqual(atom_machine(saying, bench, ("X", "Y")).states, states)
            seen.add((len(codes) > FIRST_CODES, states > 100))
        self.assertIn((True, True), seen)
        self.assertIn((False, True), seen)

    def test_many_codes_on_the_way_do_not_count(self):
        joins = (
            (((0, 0), (1, 1)), (), (1, 1), (0, 1)),
            (((1, 1),), (), (1, 1), (1, 0)),
            (((0, 1), (1, 1)), ((0, 1),), (1, 1), (1, 0)),
        )
        bench = Bench(2, (1,), joins)
        saying = ("arrows", "every", "Z", 3, 2, 2)
        self.assertEqual(len(found_first(codes_for(saying, bench, ("Z",)), FIRST_CODES)), FIRST_CODES)
        machine = atom_machine(saying, bench, ["Z"])
        self.assertEqual(machine.states, 66)
        chance = seeded(36)
        terms = [chance_term(chance, bench, chance.randint(1, 9), 1) for _ in range(150)]
        self.judge(machine, saying, bench, ["Z"], terms)

    def test_equal_webs_are_answered_alike_on_all_benches(self):
        saying = ("arrows", "X", "every", 1, 2, 2)
        row = (0, (0, (1,)), (0, (0, (0,)), (0, (1,))))
        narrow = (0, (0, (0, (1,)), (0, (0,))), (0, (1,)))
        one = atom_machine(saying, TREES, ["X"])
        two = atom_machine(saying, Bench.narrow_rows(), ["X"])
        self.assertEqual(web_of(TREES, row), web_of(Bench.narrow_rows(), narrow))
        self.assertEqual(one.answers(row), two.answers(narrow))

    def test_refusals_in_their_order(self):
        with self.assertRaises(BadSaying) as caught:
            atom_machine(("not", ("in", "X", 5)), TREES, [5])
        self.assertEqual(caught.exception.path, (1, 2))
        with self.assertRaises(BadSaying) as caught:
            atom_machine(("not", ("in", "X", "Y")), TREES, [5])
        self.assertEqual(caught.exception.path, ())
        for names, wrong in (
            (["X", "every", 5], "every"), (("X", "Y", "X", 5), "X"), ([None], None), (["X", True, "X"], True),
            (["A", "B", "C", "D", "E", "F", "A"], "A"),
        ):
            with self.assertRaises(BadName) as caught:
                atom_machine(("in", "B", "A"), TREES, names)
            self.assertEqual(caught.exception.name, wrong)
        for names, lost in ((["X"], "A"), (["A"], "B"), (["C", "D", "E", "F", "G", "H"], "A")):
            with self.assertRaises(NoLot) as caught:
                atom_machine(("in", "B", "A"), TREES, names)
            self.assertEqual(caught.exception.name, lost)
        with self.assertRaises(TooMany) as caught:
            atom_machine(("arrows", "A", "B", 1, 0, 6), WIDE, ["A", "B", "C", "D", "E", "F"])
        self.assertEqual(caught.exception.which, "tracks")
        self.assertEqual(free_names(("in", "B", "A")), ("A", "B"))

    def test_arguments_are_not_changed(self):
        names = ["Y", "X"]
        atom_machine(("in", "X", "Y"), TREES, names)
        self.assertEqual(names, ["Y", "X"])


if __name__ == "__main__":
    unittest.main()
