import unittest

from lotsayings.backs import back, code_lots
from lotsayings.benches import Bench
from lotsayings.compiler import machine_of
from lotsayings.errors import BadName, BadNumber, BadTerm, LotError, NotOnTrees, NotWeb, TooGreat, TooMany
from lotsayings.forms import place_states
from lotsayings.leasts import least
from lotsayings.machines import Machine
from lotsayings.meanings import fitting, means
from lotsayings.rings import ring, run_in
from lotsayings.sayings import both_of, check_saying, counts_of, either_of, free_names, is_plain
from lotsayings.terms import size_of, tracks_of, web_of
from lotsayings.texts import written
from tests.helpers import chance_cuts, chance_machine, chance_term, chance_web_machine, seeded, small_terms

TREES = Bench.trees()
LEAF = (0, ())
LAST = Machine(TREES, 0, ((0,),), (((1, 0), (1, 0)),), (1,))
ARROW = (
    "some Z0 and all z or and in z & every - every Z0 and arrows z - every Z0 0 1 1 arrows z & every Z0 0 1 1 or and in "
    "z & every & every Z0 and arrows z - every Z0 0 1 1 arrows z & every Z0 1 1 1 or and in z & every & every Z0 and "
    "arrows z - every Z0 1 1 1 arrows z & every Z0 0 1 1 and in z & every & every Z0 and arrows z - every Z0 1 1 1 "
    "arrows z & every Z0 1 1 1 some z and not to every z in z | none & every Z0"
)


def code(number, names):
    expression = "every"
    for i, name in enumerate(names):
        expression = ("&" if number // 2 ** i % 2 else "-", expression, name)
    return expression


def rows_below(many, below):
    """All tuples of so many numbers below the bound, the first one the slowest."""
    if many == 0:
        return [()]
    return [(first,) + rest for first in range(below) for rest in rows_below(many - 1, below)]


def back_by_hand(machine, names, d):
    """The saying of point 52, written once more."""
    whole = least(machine)
    s = whole.states
    t = run_in(whole)
    codes = ["Z0", "Z1", "Z2"][:{1: 0, 2: 1, 3: 2, 4: 2, 5: 3}[s]]
    entries = []
    for k in range(2 ** len(names)):
        for row in rows_below(s, t + d):
            p = whole.leaves[0][k]
            parts = []
            for q, n in enumerate(row):
                for _ in range(n):
                    p = whole.rows[0][p][q]
                parts.append(("arrows", "z", code(q, codes), n, t, d))
            entries.append(both_of(("in", "z", ("&", code(k, names), code(p, codes))), *parts))
    lot = "none"
    for p in whole.accepted:
        lot = ("|", lot, code(p, codes))
    rule = ("some", "z", ("and", ("not", ("to", "every", "z")), ("in", "z", lot)))
    saying = ("and", ("all", "z", either_of(*entries)), rule)
    for name in reversed(codes):
        saying = ("some", name, saying)
    return saying


def counting(d, names=0):
    """Counts places by d, on as many tracks as told: none of them is read."""
    table = tuple(tuple((p + q + 1) % d for q in range(d)) for p in range(d))
    return Machine(TREES, names, ((0,) * 2 ** names,), (table,), (d - 1,))


class BackTest(unittest.TestCase):
    def judge(self, machine, names, d=None):
        saying = back(machine, names, d=d)
        counts = ring(machine) if d is None else d
        self.assertEqual(saying, back_by_hand(machine, list(names), counts))
        self.assertIsNone(check_saying(saying))
        self.assertTrue(is_plain(saying))
        self.assertEqual(counts_of(saying), counts)
        self.assertLessEqual(set(free_names(saying)), set(names))
        for term in small_terms(TREES, 3 if len(names) < 2 else 2, len(names)):
            lots = dict(zip(names, tracks_of(term)))
            self.assertEqual(means(saying, web_of(TREES, term), lots), machine.answers(term))
        return saying

    def test_word_for_word(self):
        arrow = machine_of(("to", "every", "every"), TREES)
        self.assertEqual(written(self.judge(arrow, ())), ARROW)
        one = machine_of(("in", "every", "every"), TREES)
        whole = back(one, [])
        entry = ("and", ("in", "z", ("&", "every", "every")), ("arrows", "z", "every", 0, 0, 1))
        rule = ("and", ("not", ("to", "every", "z")), ("in", "z", ("|", "none", "every")))
        self.assertEqual(whole, ("and", ("all", "z", entry), ("some", "z", rule)))
        lot = machine_of(("in", "X", "none"), TREES)
        self.assertEqual(lot.states, 2)
        entry = ("in", "z", ("&", ("&", ("-", "every", "B"), "A3"), ("&", "every", "Z0")))
        both = back(machine_of(("in", "A", "none"), TREES, names=["B", "A"]).accepting((0,)), ["B", "A3"])
        self.assertIn(written(entry), written(both))

    def test_small_machines(self):
        self.judge(machine_of(("in", "X", "none"), TREES), ["X"])
        self.judge(machine_of(("in", "X", "none"), TREES), ["a7"], d=2)
        self.judge(machine_of(("in", "X", "Y"), TREES), ("B", "A"))
        self.judge(machine_of(("in", "every", "none"), TREES, names=("A", "b")), ("A", "b"))
        self.judge(machine_of(("in", "every", "X"), TREES, names=["X", "Y"]), ["X", "Y"], 1)
        self.judge(machine_of(("in", "every", "x"), TREES), ["x"], 3)
        for d in range(1, 7):
            self.judge(counting(1), [], d)
        self.judge(counting(2), (), 2)
        self.judge(counting(2), (), 4)
        self.judge(counting(3), [])
        self.assertEqual(written(back(counting(2), (), d=4)).count("arrows"), 32)

    def test_chance_machines(self):
        chance = seeded(521)
        states = set()
        for _ in range(600):
            machine = chance_web_machine(chance, chance.randint(0, 2), chance_cuts(chance))
            names = ["X", "y"][:machine.many]
            try:
                saying = back(machine, names)
            except LotError:
                continue
            states.add(least(machine).states)
            self.assertEqual(saying, back_by_hand(machine, names, ring(machine)))
            for _ in range(4):
                term = chance_term(chance, TREES, chance.randint(1, 4), machine.many)
                lots = dict(zip(names, tracks_of(term)))
                self.assertEqual(means(saying, web_of(TREES, term), lots), machine.answers(term))
        self.assertTrue({1, 2, 3} <= states)

    def test_machine_of_what_was_written(self):
        many = 0
        for machine, names in (
            (machine_of(("to", "every", "every"), TREES), []), (counting(2), []), (counting(1), []),
            (machine_of(("in", "X", "none"), TREES), ["X"]), (machine_of(("in", "X", "Y"), TREES), ["X", "Y"]),
            (counting(3), []), (machine_of(("count", "every", 1, 2, 1), TREES), ()),
        ):
            try:
                found = machine_of(back(machine, names), TREES, names=names)
            except TooGreat:
                continue
            self.assertEqual(found, least(machine))
            many += 1
        self.assertGreater(many, 4)

    def test_code_lots_fit_alone(self):
        chance = seeded(522)
        many = 0
        for _ in range(200):
            machine = chance_web_machine(chance, chance.randint(0, 1), chance_cuts(chance))
            names = ["X"][:machine.many]
            try:
                saying = back(machine, names)
            except LotError:
                continue
            if saying[0] != "some":
                continue
            term = chance_term(chance, TREES, chance.randint(1, 3), machine.many)
            web = web_of(TREES, term)
            lots = dict(zip(names, tracks_of(term)))
            codes = code_lots(machine, term)
            body = saying
            while body[0] == "some":
                body = body[2]
            known = {**lots, **{"Z" + str(i): lot for i, lot in enumerate(codes)}}
            self.assertIs(means(body[1], web, known), True)
            self.assertIs(means(body[2], web, known), machine.answers(term))
            name = chance.choice([name for name in known if name[0] == "Z"])
            others = {other: lot for other, lot in known.items() if other != name}
            self.assertEqual(fitting(body[1], web, name, others), [known[name]])
            many += 1
        self.assertGreater(many, 20)


class RefusalTest(unittest.TestCase):
    def refused(self, kind, attributes, *passed, **told):
        with self.assertRaises(kind) as caught:
            back(*passed, **told)
        self.assertEqual(vars(caught.exception), attributes)

    def test_order(self):
        chance = seeded(523)
        for bench in (Bench.boughs(), Bench.cotrees(), Bench.narrow_rows()):
            self.refused(NotOnTrees, {}, chance_machine(chance, bench, 0, 2), [5])
        for names, wrong in (
            (["X", 5], 5), (["X", "X", 5], "X"), (("Z",), "Z"), (["A", "z9"], "z9"), (["Z0", 5], "Z0"), ([None], None),
            (["every"], "every"), ([True], True),
        ):
            self.refused(BadName, {"name": wrong}, LAST, names)
        self.refused(BadNumber, {"which": "names"}, LAST, ["X"])
        self.refused(BadNumber, {"which": "names"}, counting(7, 2), ("X",), d=7)
        self.refused(NotWeb, {}, LAST, [], d=0)
        for d in (0, 7, -1, True, 3, 1, "2"):
            self.refused(BadNumber, {"which": "d"}, counting(2), (), d=d)
        self.refused(BadNumber, {"which": "d"}, counting(7), ())
        self.refused(BadNumber, {"which": "d"}, counting(7), (), d=7)

    def test_run_in(self):
        def capped(run):
            table = tuple(tuple(min(p + 1, run) if q == 0 else run for q in range(run + 1)) for p in range(run + 1))
            return Machine(TREES, 0, ((0,),), (table,), (run,))

        self.assertEqual([run_in(capped(run)) for run in (4, 5)], [4, 5])
        self.refused(TooMany, {"which": "entries"}, capped(4), ())
        self.refused(TooMany, {"which": "run_in"}, capped(5), ())
        self.refused(BadNumber, {"which": "d"}, capped(5), (), d=8)

    def test_entries(self):
        self.assertEqual(written(back(counting(1, 5), ["A", "B", "C", "D", "E"])).count("arrows"), 32)
        self.refused(TooMany, {"which": "entries"}, counting(1, 5), ["A", "B", "C", "D", "E"], d=2)
        self.assertEqual(written(back(counting(1, 4), ["A", "B", "C", "D"], d=2)).count("arrows"), 32)
        self.assertEqual(written(back(counting(3), ())).count("arrows"), 81)
        self.refused(TooMany, {"which": "entries"}, counting(3), (), d=6)
        self.refused(TooMany, {"which": "entries"}, counting(4), ())

    def test_five_states(self):
        chance = seeded(524)
        seen = set()
        for _ in range(150):
            machine = chance_web_machine(chance, 0, [(1, 1)] * chance.randint(2, 3))
            states = least(machine).states
            if (run_in(machine), ring(machine)) != (1, 1):
                continue
            if states > 5:
                self.refused(TooMany, {"which": "entries"}, machine, ())
            else:
                saying = back(machine, ())
                self.assertEqual(saying, back_by_hand(machine, [], 1))
                self.assertEqual(written(saying).count("arrows"), states * 2 ** states)
                for term in (LEAF, (0, LEAF, LEAF), (0, (0, LEAF, LEAF), LEAF), (0, LEAF, (0, LEAF, LEAF))):
                    if states < 5 or size_of(term) < 3:
                        self.assertEqual(means(saying, web_of(TREES, term), {}), machine.answers(term))
            seen.add(states)
        self.assertTrue({2, 3, 4, 5, 6} <= seen)


class CodeLotsTest(unittest.TestCase):
    def test_digits_of_states(self):
        chance = seeded(525)
        for _ in range(60):
            machine = chance_machine(chance, TREES, chance.randint(0, 2), chance.randint(1, 9))
            term = chance_term(chance, TREES, chance.randint(1, 20), machine.many)
            whole = least(machine)
            states = place_states(whole, term)
            lots = code_lots(machine, term)
            self.assertEqual(len(lots), len(bin(whole.states - 1)) - 2 if whole.states > 1 else 0)
            for place in range(size_of(term)):
                self.assertEqual(sum(2 ** i for i, lot in enumerate(lots) if place in lot), states[place])
        self.assertEqual(code_lots(LAST, (0, LEAF, LEAF)), ((0,),))
        self.assertEqual(code_lots(counting(1), LEAF), ())

    def test_refusals(self):
        with self.assertRaises(NotOnTrees):
            code_lots(chance_machine(seeded(526), Bench.boughs(), 0, 2), "no term")
        with self.assertRaises(BadTerm) as caught:
            code_lots(LAST, (0, LEAF, (0, (1,))))
        self.assertEqual(caught.exception.path, (1,))


if __name__ == "__main__":
    unittest.main()
