import unittest

from lotsayings.atoms import atom_machine
from lotsayings.benches import Bench
from lotsayings.compiler import machine_of, name_machine
from lotsayings.errors import BadName, BadSaying, LotError, NoLot, TooGreat, TooMany
from lotsayings.leasts import least
from lotsayings.meanings import means
from lotsayings.sayings import both_of, either_of, free_names, put_in
from lotsayings.steps import moved_letters, pairs, rows_without, sets_without
from lotsayings.terms import size_of, tracks_of, web_of
from lotsayings.texts import written
from tests.helpers import (
    NAMED, WIDE, chance_bench, chance_expression, chance_saying, chance_single, chance_term, dressed, lot_as_set,
    seeded, small_terms,
)

TREES = Bench.trees()
CHOSEN = [
    ("some", "X", ("all", "Y", ("or", ("in", "X", "Y"), ("to", "Y", "A")))),
    ("num", 1, 3, "X", ("not", ("to", "X", ("-", "X", "A")))),
    ("num", 0, 2, "x", ("some", "y", ("and", ("to", "x", "y"), ("in", "y", "A")))),
    ("all", "x", ("some", "Y", ("and", ("count", "Y", 1, 1, 2), ("arrows", "x", "Y", 0, 0, 2)))),
    ("some", "x", ("and", ("in", "x", "A"), ("arrows", "x", "b", 1, 2, 1))),
    ("num", 2, 4, "X", ("num", 1, 2, "x", ("in", "x", ("^", "X", "A")))),
    ("and", ("to", "A", "b"), ("not", ("in", "b", "A"))),
    ("or", ("in", "A", "none"), ("all", "A", ("in", "A", ("|", "A", "b")))),
]


def lots_for(names, term):
    return dict(zip(names, tracks_of(term)))


def made_by_steps(saying, bench):
    """The machine of point 32 over the free names, ascending, step by step."""
    word = saying[0]
    free = free_names(saying)
    if word in ("in", "to", "count", "arrows"):
        return atom_machine(saying, bench, free)
    if word == "not":
        return ~made_by_steps(saying[1], bench)
    if word == "all":
        return ~made_by_steps(("some", saying[1], ("not", saying[2])), bench)
    if word in ("and", "or"):
        sides = []
        for part in saying[1:]:
            sides.append(made_by_steps(part, bench))
        for at, part in enumerate(saying[1:]):
            sides[at] = moved_letters(sides[at], [free.index(name) for name in free_names(part)], len(free))
        return pairs(sides[0], sides[1], word)
    name, inner = saying[-2:]
    tracks = list(free) + [name]
    machine = made_by_steps(inner, bench)
    machine = moved_letters(machine, [tracks.index(other) for other in free_names(inner)], len(tracks))
    if name[0].islower():
        single = atom_machine(("count", name, 1, 2, 1), bench, [name])
        machine = pairs(machine, moved_letters(single, [len(free)], len(tracks)), "and")
    if word == "some":
        return sets_without(machine, len(free))
    return rows_without(machine, len(free), saying[1], saying[2])


def told(maker):
    """What maker returns, or the kind and the attributes of the error that it raises."""
    try:
        return maker()
    except LotError as error:
        return (type(error).__name__, dict(vars(error)))


class MachineOfTest(unittest.TestCase):
    def judge(self, saying, bench, names, terms):
        machine = machine_of(saying, bench, names=names)
        self.assertEqual((machine.bench, machine.many), (bench, len(names)))
        self.assertEqual(least(machine), machine)
        for term in terms:
            meant = means(saying, web_of(bench, term), lots_for(names, term))
            self.assertIs(machine.answers(term), meant, (saying, term))

    def test_chosen_sayings_on_all_small_terms(self):
        for bench in NAMED.values():
            terms = list(small_terms(bench, 3 if len(bench) == 1 else 2, 2))
            for saying in CHOSEN:
                for names in (("A", "b"), ["b", "A"]):
                    self.judge(saying, bench, names, terms)

    def test_chosen_sayings_on_another_bench(self):
        chance = seeded(311)
        bench = Bench(2, (0, 1), ((((0, 1),), ((1, 0),), (1, 0), (0, 1)), ((), ((1, 1),), (0, 1), (1, 1))))
        terms = [chance_term(chance, bench, chance.randint(1, 5), 3) for _ in range(40)]
        many = 0
        for saying in CHOSEN:
            try:
                self.judge(saying, bench, ["A", "C", "b"], terms)
                many += 1
            except TooGreat:
                pass
        self.assertGreater(many, 4)

    def test_chance_sayings(self):
        chance = seeded(312)
        words = set()
        steps = set()
        for _ in range(250):
            bench = chance.choice(list(NAMED.values()) + [WIDE, chance_bench(chance, 2, 1)])
            saying = chance_saying(chance, ["X", "Y", "x"], chance.randint(1, 4))
            names = list(free_names(saying)) + ["C", "D"][:chance.randint(0, 2)]
            chance.shuffle(names)
            terms = [chance_term(chance, bench, chance.randint(1, 4), len(names)) for _ in range(6)]
            try:
                self.judge(saying, bench, names, terms)
                words.add(saying[0])
            except TooGreat as error:
                steps.add(error.step)
        self.assertEqual(words, {"not", "and", "or", "some", "all", "num"})
        self.assertEqual(steps, {"atom", "pairs", "sets", "rows"})

    def test_it_is_made_as_told(self):
        chance = seeded(313)
        great = set()
        for _ in range(150):
            bench = chance.choice(list(NAMED.values()) + [WIDE])
            saying = chance_saying(chance, ["X", "Y", "x"], chance.randint(0, 4))
            one = told(lambda: made_by_steps(saying, bench))
            self.assertEqual(told(lambda: machine_of(saying, bench)), one, saying)
            if isinstance(one, tuple):
                great.add(one[1]["step"])
        self.assertEqual(great, {"atom", "pairs", "sets", "rows"})

    def test_names(self):
        saying = ("some", "Y", ("and", ("to", "B", "Y"), ("in", "Y", "A")))
        self.assertEqual(machine_of(saying, TREES), machine_of(saying, TREES, names=("A", "B")))
        turned = machine_of(saying, TREES, names=["B", "A"])
        self.assertEqual(turned, moved_letters(machine_of(saying, TREES), [1, 0], 2))
        more = machine_of(saying, TREES, names=["C", "B", "a", "A", "Y"])
        self.assertEqual(more, moved_letters(machine_of(saying, TREES), [3, 1], 5))
        self.assertEqual(machine_of(("all", "X", ("in", "X", "X")), TREES).many, 0)

    def test_other_names_in_the_same_places(self):
        chance = seeded(314)
        calls = {"X": "B9", "Y": "A", "x": "m7", "Z": "Q"}

        def called(part):
            if isinstance(part, tuple):
                return tuple(called(inner) for inner in part)
            return calls.get(part, part) if isinstance(part, str) else part

        for _ in range(120):
            saying = chance_saying(chance, ["X", "Y", "x", "Z"], chance.randint(0, 3))
            names = list(free_names(saying))
            chance.shuffle(names)
            try:
                machine = machine_of(saying, TREES, names=names)
                other = machine_of(called(saying), TREES, names=[calls[name] for name in names])
            except TooGreat:
                continue
            self.assertEqual(machine, other, saying)

    def test_a_name_that_is_not_free_below(self):
        saying = ("to", "A", "every")
        for bench in NAMED.values():
            for name in ("X", "x", "B"):
                self.assertEqual(machine_of(("some", name, saying), bench), machine_of(saying, bench))
                self.assertEqual(machine_of(("all", name, saying), bench), machine_of(saying, bench))
            again = machine_of(("some", "A", ("all", "A", ("in", "A", "A"))), bench)
            self.assertEqual((again.many, again.states, again.accepted), (0, 1, (0,)))
            odd = machine_of(("num", 1, 2, "x", saying), bench)
            places = machine_of(("count", "every", 1, 0, 2), bench)
            self.assertEqual(odd, machine_of(saying, bench) & moved_letters(places, [], 1))
            self.assertEqual(machine_of(("num", 1, 2, "X", saying), bench).accepted, ())

    def test_five_tracks(self):
        names = ("A", "B", "C", "D", "E")
        saying = ("or", ("in", ("&", "A", "B"), ("|", "C", "D")), ("to", "E", "A"))
        chance = seeded(315)
        self.judge(saying, TREES, names, [chance_term(chance, TREES, chance.randint(1, 7), 5) for _ in range(60)])
        inner = ("some", "E", ("in", ("&", "A", "B"), ("|", ("&", "C", "D"), "E")))
        self.assertEqual(machine_of(inner, TREES).many, 4)

    def test_long_sayings(self):
        single = [("count", name, a, t, 2) for name in ("A", "B") for t in range(3) for a in range(t + 2)]
        rows = [both_of(*[("or", one, two) for two in single]) for one in single]
        saying = either_of(*rows)
        self.assertGreater(len(written(saying).split()), 2000)
        self.assertLess(machine_of(saying, TREES).states, 40)
        deep = ("in", "A", "B")
        for _ in range(59):
            deep = ("not", deep)
        self.assertEqual(machine_of(deep, TREES), ~machine_of(("in", "A", "B"), TREES))


class StatesTest(unittest.TestCase):
    def test_told_numbers(self):
        self.assertEqual(machine_of(("in", "X", "Y"), TREES).states, 2)
        self.assertEqual(machine_of(("to", "X", "Y"), TREES).states, 5)
        self.assertEqual(machine_of(("count", "X", 1, 2, 1), TREES).states, 3)
        for d in range(1, 7):
            for a in range(d):
                self.assertEqual(machine_of(("count", "X", a, 0, d), TREES).states, d)
        for bench in list(NAMED.values()) + [WIDE]:
            machine = machine_of(("in", "every", "none"), bench)
            self.assertEqual((machine.states, machine.accepted), (1, ()))


class EqualTest(unittest.TestCase):
    def both(self, one, two, bench):
        names = sorted(set(free_names(one) + free_names(two)))
        made = [told(lambda: machine_of(saying, bench, names=names)) for saying in (one, two)]
        if not any(isinstance(machine, tuple) for machine in made):
            self.assertEqual(made[0], made[1], (one, two))
            return 1
        return 0

    def test_pairs_of_sayings(self):
        chance = seeded(316)
        many = 0
        for bench in list(NAMED.values()) + [WIDE]:
            for _ in range(5):
                s = chance_saying(chance, ["X", "Y", "x"], chance.randint(0, 1))
                s2 = chance_single(chance, ["X", "A"])
                for name in ("X", "x"):
                    some, every = ("some", name, s), ("all", name, s)
                    many += self.both(("not", some), ("all", name, ("not", s)), bench)
                    both = ("or", some, ("some", name, s2))
                    many += self.both(("some", name, ("or", s, s2)), both, bench)
                    both = ("and", every, ("all", name, s2))
                    many += self.both(("all", name, ("and", s, s2)), both, bench)
                for name in ("B", "b"):
                    many += self.both(("some", name, s), s, bench)
        self.assertGreater(many, 120)

    def test_single_sayings(self):
        chance = seeded(317)
        for bench in list(NAMED.values()) + [WIDE]:
            for _ in range(10):
                one = chance_expression(chance, ["X", "Y", "a"])
                two = chance_expression(chance, ["X", "Y", "a"])
                self.both(("in", one, two), ("in", ("-", one, two), "none"), bench)
                self.both(("to", one, two), ("not", ("arrows", one, two, 0, 1, 1)), bench)
                t = chance.randint(0, 4)
                d = chance.randint(1, 6)
                for a in range(t + d):
                    count = ("count", one, a, t, d)
                    if a < t:
                        self.assertEqual(self.both(count, ("count", one, a, t, 1), bench), 1)
                    else:
                        rest = ("and", ("count", one, t, t, 1), ("count", one, a % d, 0, d))
                        self.assertEqual(self.both(count, rest, bench), 1)

    def test_even_and_odd(self):
        chance = seeded(318)
        for bench in NAMED.values():
            for _ in range(12):
                saying = chance_saying(chance, ["X", "Y"], chance.randint(0, 1))
                for name in ("X", "x"):
                    one = told(lambda: machine_of(("num", 0, 2, name, saying), bench))
                    two = told(lambda: machine_of(("num", 1, 2, name, saying), bench))
                    if isinstance(one, tuple):
                        self.assertEqual(one, two)
                    else:
                        self.assertEqual(one, ~two)

    def test_put_in(self):
        chance = seeded(319)
        many = 0
        for _ in range(150):
            bench = chance.choice([TREES, Bench.boughs(), Bench.cotrees()])
            saying = chance_saying(chance, ["X", "Y"], chance.randint(0, 2))
            expression = chance_expression(chance, ["Y", "A"])
            try:
                machine = machine_of(saying, bench, names=["X", "Y"])
                other = machine_of(put_in(saying, "X", expression), bench, names=["A", "Y"])
            except TooGreat:
                continue
            for _ in range(8):
                term = chance_term(chance, bench, chance.randint(1, 6), 2)
                lots = dict(zip(["A", "Y"], [set(lot) for lot in tracks_of(term)]))
                lot = lot_as_set(expression, size_of(term), lots)
                rows = [(int(x in lot), int(x in lots["Y"])) for x in range(size_of(term))]
                self.assertEqual(other.answers(term), machine.answers(dressed(term, rows)), (saying, expression))
                many += 1
        self.assertGreater(many, 500)

    def test_equal_webs_of_two_benches(self):
        row = (0, (0, (1,)), (0, (0, (0,)), (0, (1,))))
        narrow = (0, (0, (0, (1,)), (0, (0,))), (0, (1,)))
        star = (0, (0, (0, (1,)), (0, (0,))), (0, (1,)))
        joined = (1, (0, (1,)), (0, (0, (0,)), (0, (1,))))
        self.assertEqual(web_of(TREES, row), web_of(Bench.narrow_rows(), narrow))
        self.assertEqual(web_of(Bench.boughs(), star), web_of(Bench.cotrees(), joined))
        chance = seeded(320)
        for _ in range(60):
            saying = chance_saying(chance, ["X", "Y"], chance.randint(0, 3))
            saying = ("some", "Y", saying) if "Y" in free_names(saying) else saying
            for benches, terms in (
                ((TREES, Bench.narrow_rows()), (row, narrow)), ((Bench.boughs(), Bench.cotrees()), (star, joined)),
            ):
                try:
                    one, two = [machine_of(saying, bench, names=["X"]) for bench in benches]
                except TooGreat:
                    continue
                self.assertEqual(one.answers(terms[0]), two.answers(terms[1]), saying)


class NameMachineTest(unittest.TestCase):
    def test_lots_of_one_place(self):
        for bench in list(NAMED.values()) + [WIDE]:
            for name in ("X", "x", "Q0", "q99"):
                machine = name_machine(name, bench)
                self.assertEqual(machine, atom_machine(("count", name, 1, 2, 1), bench, [name]))
                for term in small_terms(bench, 2, 1):
                    self.assertEqual(machine.answers(term), len(tracks_of(term)[0]) == 1)

    def test_refusals(self):
        for wrong in ("every", "none", "X123", "", "1", None, 7, ("X",), "XY"):
            with self.assertRaises(BadName) as caught:
                name_machine(wrong, TREES)
            self.assertEqual(caught.exception.name, wrong)


class RefusalTest(unittest.TestCase):
    def refused(self, kind, attributes, saying, bench=TREES, names=None):
        with self.assertRaises(kind) as caught:
            machine_of(saying, bench, names=names)
        self.assertEqual(vars(caught.exception), attributes)

    def test_order(self):
        many = both_of(*[("in", name, "Q") for name in "ABCDEF"])
        wrong = ("and", ("in", "A", "A"), ("count", "A", 2, 1, 1))
        self.refused(BadSaying, {"path": (2, 2)}, wrong, names=["X", 5])
        self.refused(BadSaying, {"path": ()}, "in A B")
        self.refused(BadName, {"name": 5}, many, names=["A", 5, "A"])
        self.refused(BadName, {"name": "A"}, many, names=["A", "B", "A", 5])
        self.refused(BadName, {"name": "every"}, many, names=("every",))
        self.refused(NoLot, {"name": "A"}, many, names=["C", "B", "D", "E", "F", "G", "H"])
        self.refused(NoLot, {"name": "Q"}, many, names=list("FEDCBA"))
        self.refused(NoLot, {"name": "B"}, ("in", "C", "B"), names=[])
        self.refused(TooMany, {"which": "tracks"}, many, names=list("QFEDCBA"))
        self.refused(TooMany, {"which": "tracks"}, many)
        self.refused(TooMany, {"which": "tracks"}, ("in", "A", "A"), names=list("ABCDEF"))

    def test_tracks_of_parts(self):
        great = ("arrows", "A", "B", 9, 4, 6)
        five = both_of(*[("in", name, "every") for name in "ABCDE"])
        for word in ("some", "all"):
            self.refused(TooMany, {"which": "tracks"}, ("or", great, (word, "X", five)), Bench.cotrees())
            self.assertEqual(machine_of((word, "E", five), TREES).many, 4)
        self.refused(TooMany, {"which": "tracks"}, ("num", 0, 2, "x", five))
        six = ("and", ("in", "F", "F"), five)
        self.refused(TooMany, {"which": "tracks"}, ("some", "F", six))
        self.refused(TooMany, {"which": "tracks"}, ("and", great, ("some", "A", ("some", "F", six))), Bench.cotrees())
        self.assertEqual(machine_of(("some", "E", five), TREES, names=list("EDCBA")).many, 5)

    def test_first_step_that_is_too_great(self):
        bench = Bench.cotrees()
        atom = ("arrows", "A", "B", 9, 4, 6)
        two = ("and", ("count", "A", 9, 4, 6), ("count", "B", 9, 4, 6))
        three = ("and", two, ("count", "C", 9, 4, 6))
        self.refused(TooGreat, {"step": "atom"}, atom, bench)
        self.refused(TooGreat, {"step": "pairs"}, three)
        self.refused(TooGreat, {"step": "pairs"}, ("and", three, atom), bench)
        self.refused(TooGreat, {"step": "atom"}, ("and", atom, three), bench)
        self.refused(TooGreat, {"step": "atom"}, ("and", two, ("or", atom, three)), bench)
        rows = ("num", 0, 6, "A", ("count", "A", 6, 4, 5))
        self.refused(TooGreat, {"step": "rows"}, rows)
        self.refused(TooGreat, {"step": "rows"}, ("or", rows, ("and", three, ("some", "X", three))))
        sets = ("some", "A", ("arrows", "A", "B", 6, 3, 4))
        self.refused(TooGreat, {"step": "sets"}, sets)
        self.refused(TooGreat, {"step": "sets"}, ("and", sets, rows))
        self.refused(TooGreat, {"step": "rows"}, ("and", rows, sets))
        self.refused(TooGreat, {"step": "sets"}, ("all", "A", ("not", sets[2])))

    def test_hundred_states_stand(self):
        two = ("and", ("count", "A", 9, 4, 6), ("count", "B", 9, 4, 6))
        self.assertEqual(machine_of(two, TREES).states, 100)
        self.assertEqual(machine_of(("or", two, ("not", two)), TREES).states, 1)
        self.refused(TooGreat, {"step": "pairs"}, ("or", two, ("in", "A", "B")))

    def test_arguments_are_not_changed(self):
        names = ["B", "A"]
        machine_of(("in", "A", "B"), TREES, names=names)
        self.assertEqual(names, ["B", "A"])


if __name__ == "__main__":
    unittest.main()
