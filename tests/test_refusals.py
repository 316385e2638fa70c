"""Each error class of the interface, by functions of all modules that raise it."""

import unittest

from lotsayings import errors
from lotsayings.against import best_against, best_same, weights_against
from lotsayings.atoms import atom_machine
from lotsayings.backs import back, code_lots
from lotsayings.benches import Bench
from lotsayings.bests import Weigh, best, best_lot, best_many, ends
from lotsayings.bounds import num_bound, order_of
from lotsayings.closings import breaking, broken, closed_everywhere, closing_saying
from lotsayings.compiler import machine_of, name_machine
from lotsayings.cuts import check_number, cut
from lotsayings.families import Family
from lotsayings.forms import place_states, tree_term
from lotsayings.founds import way_out
from lotsayings.gathers import Gather
from lotsayings.greedy import greedy
from lotsayings.growth import Growth
from lotsayings.hanging import is_web_machine, joins_alike, two_terms
from lotsayings.leasts import apart
from lotsayings.lots import check_expression, lot_by
from lotsayings.machines import Machine
from lotsayings.marks import MarkTable
from lotsayings.meanings import fitting, means, number_fitting
from lotsayings.narrow import Narrow
from lotsayings.numbers import number_of, number_row, rest_term, rests_of
from lotsayings.partings import between, inseparable, is_parted, least_parting, parting
from lotsayings.picks import can_pick, greatest_saying, no_pick, picked, picker
from lotsayings.prices import Prices, at_most, gain
from lotsayings.pumped import map_of, pumped_size, pumped_state
from lotsayings.ranks import Rank, turns_of
from lotsayings.relations import Relations, as_many
from lotsayings.rings import counts_told, ring, ring_witness, run_in, steps_of
from lotsayings.sayings import both_of, check_saying, either_of, put_in
from lotsayings.shares import Shares
from lotsayings.sizes import Sizes
from lotsayings.steps import common, moved_letters, pairs, rows_without, sets_without
from lotsayings.tables import LeastSizes, least_size
from lotsayings.terms import all_terms, changed, check_term, colour, hung, leaf_at
from lotsayings.texts import read_saying
from lotsayings.unmoved import equal_children, has_three, is_unmoved, lots_of, unmoved_lots
from lotsayings.verdicts import agree, giving_term, gives, parting_lots, parting_term, says_same
from lotsayings.webs import Web, equal_by, lot_of, moved, symmetries
from tests.helpers import chance_machine, counting_machine, refused, seeded
from tests.test_growth import two_circles

TREES = Bench.trees()
BOUGHS = Bench.boughs()
LEAF = (0, ())
ODD = counting_machine(TREES, 1, 2)
EVEN = machine_of(("count", "every", 0, 0, 2), TREES)
BARE = machine_of(("in", "every", "every"), TREES)
OTHER = machine_of(("in", "X", "none"), BOUGHS)
LAST = Machine(TREES, 0, ((0,),), (((1, 0), (1, 0)),), (1,))
LAST_X = Machine(TREES, 1, ((0, 0),), (((1, 0), (1, 0)),), (1,))
NARROW = Bench(1, (0,), (((), (), (0,), (0,)),))
PLAIN = machine_of(("in", "X", "none"), NARROW)
BELOW = machine_of(("and", ("count", "X", 1, 2, 1), ("to", "every", "X")), TREES)
LONG = Machine(TREES, 0, ((0,),), (tuple((min(p + 1, 5),) + (5,) * 5 for p in range(6)),), (5,))
WEB = Web(2, [(0, 1)])
GREAT = Web(11, ())
STAR = hung(LEAF, LEAF, times=10)
SIXTY = counting_machine(TREES, 1, 60)
FAMILY = Family(2, [(0,)])

CALLS = {
    "BadWeb": {"size": [lambda: Web(0, ()), lambda: Web(201, ())], "arrows": [lambda: Web(2, [(0, 0)])]},
    "BadBench": {
        "labels": [lambda: Bench(4, (0,), ())], "starts": [lambda: Bench(1, (), ())], "joins": [lambda: Bench(1, (0,), ())],
    },
    "BadMachine": {
        "bench": [lambda: Machine(1, 0, (), (), ()), lambda: Machine.told(1, 0, len, len)],
        "many": [lambda: Machine(TREES, 6, (), (), ()), lambda: Machine.told(TREES, 6, len, len)],
        "leaves": [lambda: Machine(TREES, 0, (), (), ())],
        "rows": [lambda: Machine(TREES, 0, ((0,),), (), ())],
        "accepted": [lambda: Machine(TREES, 0, ((0,),), (((0,),),), (1,)), lambda: EVEN.accepting((2,))],
    },
    "BadTerm": {
        (): [
            lambda: check_term(TREES, None, 0), lambda: EVEN.state(None), lambda: EVEN.answers((0, (1,))),
            lambda: EVEN.state_in(LEAF, 0), lambda: place_states(EVEN, None), lambda: code_lots(EVEN, None),
            lambda: list(lots_of(ODD, None)), lambda: is_unmoved(None, ()), lambda: unmoved_lots(None),
            lambda: equal_children(None), lambda: has_three(None), lambda: MarkTable(BELOW).mark_of(None),
            lambda: picked(ODD, None), lambda: number_row(ODD, None), lambda: number_of(ODD, None),
            lambda: Relations([ODD]).row_of(None), lambda: Relations([ODD]).share_of(None),
            lambda: turns_of(ODD, LEAF, LEAF), lambda: best(ODD, None, ()), lambda: best_many(ODD, None, ()),
            lambda: best_lot(ODD, None, ()), lambda: ends(ODD, None, ()), lambda: Family.of(ODD, None),
            lambda: map_of(EVEN, LEAF), lambda: pumped_state(EVEN, LEAF, None, 1, LEAF), lambda: least_size(ODD, None),
        ],
        (1,): [lambda: check_term(TREES, (0, LEAF, (0, (1,))), 0), lambda: turns_of(ODD, None, (0, LEAF, None))],
    },
    "BadSaying": {
        (): [
            lambda: check_saying(1), lambda: check_expression("no"), lambda: put_in((), "X", "Y"),
            lambda: atom_machine(("not", ("in", "X", "X")), TREES, ["X"]), lambda: machine_of((), TREES),
            lambda: says_same((), (), TREES), lambda: parting_lots((), (), TREES), lambda: greatest_saying((), "X"),
            lambda: closing_saying((), "X", "or"), lambda: closed_everywhere((), "X", TREES, "or"),
            lambda: breaking((), "X", TREES, "or"),
        ],
        (2,): [lambda: check_saying(("in", "X", "?")), lambda: put_in(("in", "X", "Y"), "X", ("&", "X", "?"))],
    },
    "BadText": {0: [lambda: read_saying("")], 4: [lambda: read_saying("count X 1 0 1")]},
    "BadName": {
        "?": [
            lambda: put_in(("in", "X", "Y"), "?", "X"), lambda: fitting(("in", "X", "X"), WEB, "?", {}),
            lambda: number_fitting(("in", "X", "X"), WEB, "?", {}), lambda: atom_machine(("in", "X", "X"), TREES, ["?"]),
            lambda: machine_of(("in", "X", "X"), TREES, names=["?"]), lambda: name_machine("?", TREES),
            lambda: back(EVEN, ["?"]), lambda: greatest_saying(("in", "X", "X"), "?"),
            lambda: closing_saying(("in", "X", "X"), "?", "or"), lambda: breaking(("in", "X", "X"), "?", TREES, "or"),
            lambda: closed_everywhere(("in", "X", "X"), "?", TREES, "or"),
        ],
    },
    "NoLot": {
        "Y": [
            lambda: lot_by("Y", 1, {}), lambda: means(("in", "Y", "Y"), WEB, {}),
            lambda: fitting(("in", "X", "Y"), WEB, "X", {}), lambda: atom_machine(("in", "X", "Y"), TREES, ["X"]),
            lambda: number_fitting(("in", "X", "Y"), WEB, "X", {}), lambda: machine_of(("in", "X", "Y"), TREES, names="X"),
        ],
    },
    "TooGreat": {
        "atom": [
            lambda: atom_machine(("arrows", "X", "Y", 9, 4, 6), Bench.cotrees(), ["X", "Y"]),
            lambda: machine_of(("arrows", "X", "Y", 9, 4, 6), Bench.cotrees()),
        ],
        "pairs": [
            lambda: pairs(SIXTY, counting_machine(TREES, 1, 7), "and"), lambda: SIXTY & counting_machine(TREES, 1, 7),
            lambda: common(SIXTY, counting_machine(TREES, 1, 7)), lambda: parting_term(SIXTY, counting_machine(TREES, 1, 7)),
            lambda: gives(SIXTY, counting_machine(TREES, 1, 7)), lambda: giving_term(SIXTY, counting_machine(TREES, 1, 7)),
            lambda: best_against(SIXTY, counting_machine(TREES, 1, 7)),
            lambda: is_parted(SIXTY, counting_machine(TREES, 1, 7), 1),
            lambda: Machine.told(TREES, 0, lambda label, bits: 0, lambda j, p, q: p + 1),
        ],
        "rows": [
            lambda: rows_without(counting_machine(TREES, 1, 17), 0, 0, 6), lambda: rests_of(counting_machine(TREES, 1, 17), 6),
            lambda: rest_term(counting_machine(TREES, 1, 17), 0, 6),
        ],
        "sets": [
            lambda: sets_without(chance_machine(seeded(1), TREES, 1, 60), 0),
            lambda: best_same(chance_machine(seeded(1), TREES, 1, 12), ODD, floor=0),
        ],
        "nodes": [
            lambda: MarkTable(counting_machine(TREES, 1, 7)), lambda: can_pick(counting_machine(TREES, 1, 7)),
            lambda: no_pick(counting_machine(TREES, 1, 7)), lambda: picker(counting_machine(TREES, 1, 7)),
            lambda: picked(counting_machine(TREES, 1, 7), LEAF),
        ],
    },
    "BadLot": {
        None: [
            lambda: lot_of((1, 1), 3), lambda: WEB.of_lot(()), lambda: moved((3,), (0, 1)), lambda: colour(LEAF, [(1,)]),
            lambda: equal_by(WEB, [(2,)], WEB, []), lambda: list(symmetries(WEB, [(2,)])), lambda: lot_by("X", 1, {"X": (1,)}),
            lambda: means(("in", "X", "X"), WEB, {"X": (2,)}), lambda: is_unmoved(LEAF, (1,)), lambda: Weigh([1])((1,)),
            lambda: Family(1, [(1,)]), lambda: FAMILY.held((2,), ()), lambda: FAMILY.looks((2,)),
        ],
    },
    "BadOrder": {None: [lambda: WEB.renumbered((0,)), lambda: moved((), (0, 0))]},
    "OtherBench": {
        None: [
            lambda: ODD & OTHER, lambda: pairs(ODD, OTHER, "or"), lambda: common(ODD, OTHER), lambda: agree(ODD, OTHER),
            lambda: parting_term(ODD, OTHER), lambda: gives(ODD, OTHER), lambda: giving_term(ODD, OTHER),
            lambda: Relations([ODD, OTHER]), lambda: as_many(ODD, OTHER), lambda: best_same(ODD, OTHER),
            lambda: best_against(ODD, OTHER),
        ],
    },
    "OtherTracks": {
        None: [
            lambda: ODD | EVEN, lambda: pairs(ODD, EVEN, "or"), lambda: common(ODD, EVEN), lambda: agree(ODD, EVEN),
            lambda: gives(ODD, EVEN), lambda: is_parted(ODD, EVEN, 1), lambda: inseparable(ODD, EVEN, 1),
            lambda: parting(ODD, EVEN, 1), lambda: between(ODD, EVEN, 1), lambda: least_parting(ODD, EVEN),
            lambda: list(lots_of(BARE, LEAF)), lambda: MarkTable(BARE), lambda: can_pick(BARE), lambda: picker(BARE),
            lambda: number_row(BARE, LEAF), lambda: number_of(BARE, LEAF), lambda: rests_of(BARE, 2),
            lambda: rest_term(BARE, 0, 2), lambda: Relations([BARE]), lambda: as_many(BARE, BARE), lambda: Rank(BARE),
            lambda: turns_of(BARE, None, LEAF), lambda: best(BARE, LEAF, [1]), lambda: best_many(BARE, LEAF, [1]),
            lambda: best_lot(BARE, LEAF, [1]), lambda: ends(BARE, LEAF, [1]), lambda: Family.of(BARE, LEAF),
            lambda: best_same(BARE, BARE), lambda: best_against(BARE, BARE), lambda: Narrow(BARE), lambda: Growth(BARE),
            lambda: LeastSizes(BARE), lambda: least_size(BARE, LEAF),
        ],
    },
    "NotOnTrees": {
        None: [
            lambda: place_states(OTHER, LEAF), lambda: is_web_machine(PLAIN), lambda: joins_alike(PLAIN),
            lambda: two_terms(PLAIN), lambda: counts_told(PLAIN, 1), lambda: ring_witness(OTHER, 1), lambda: back(OTHER, ["X"]),
            lambda: code_lots(OTHER, LEAF), lambda: Gather(OTHER, 1), lambda: is_parted(ODD, OTHER, 1),
            lambda: least_parting(OTHER, ODD), lambda: list(lots_of(OTHER, LEAF)), lambda: MarkTable(OTHER),
            lambda: can_pick(OTHER), lambda: no_pick(OTHER), lambda: picked(OTHER, LEAF), lambda: picker(OTHER),
        ],
    },
    "NotWeb": {
        None: [
            lambda: ring_witness(LAST, 1), lambda: back(LAST, ()), lambda: Gather(LAST, 1), lambda: is_parted(LAST, EVEN, 1),
            lambda: parting(EVEN, LAST, 1), lambda: list(lots_of(LAST_X, LEAF)), lambda: MarkTable(LAST_X),
            lambda: can_pick(LAST_X), lambda: no_pick(LAST_X), lambda: picked(LAST_X, LEAF), lambda: picker(LAST_X),
        ],
    },
    "NotPicked": {None: [lambda: picked(BELOW, LEAF), lambda: picker(BELOW)]},
    "BadNumber": {
        "number": [lambda: cut(-1, 0, 1)], "x": [lambda: check_number(True, "x", 0, 1)], "t": [lambda: cut(0, 5, 1)],
        "place": [lambda: WEB.arrow(0, 2), lambda: WEB.sent(2), lambda: leaf_at(LEAF, 1), lambda: changed(LEAF, 1, ())],
        "times": [
            lambda: hung(LEAF, LEAF, times=201), lambda: pumped_state(EVEN, None, None, -1, LEAF),
            lambda: pumped_size(None, None, -1, LEAF), lambda: Growth(ODD).pumped(7), lambda: LeastSizes(ODD).pumped(4),
        ],
        "size": [lambda: list(all_terms(TREES, 7)), lambda: Family(11, []), lambda: FAMILY & Family(1, [])],
        "sayings": [lambda: both_of(), lambda: either_of()],
        "state": [lambda: way_out(EVEN, 2), lambda: apart(EVEN, 2, 0), lambda: Sizes(EVEN).state_sizes(2)],
        "word": [
            lambda: pairs(EVEN, EVEN, "nor"), lambda: broken(FAMILY, "xor"), lambda: weights_against(FAMILY, "or"),
            lambda: closing_saying(("in", "X", "X"), "X", "xor"),
        ],
        "track": [
            lambda: sets_without(EVEN, 0), lambda: rows_without(EVEN, 0, 0, 2), lambda: at_most(EVEN, 0, 0),
            lambda: Shares(EVEN, 0),
        ],
        "other": [lambda: at_most(ODD, 0, 1)], "many": [lambda: moved_letters(EVEN, (), 6), lambda: tree_term((), 6)],
        "places": [lambda: moved_letters(ODD, (), 1)], "row": [lambda: tree_term((), 0)],
        "p": [lambda: steps_of(EVEN, 2, 0), lambda: order_of(4, 1)], "q": [lambda: steps_of(EVEN, 0, 2)],
        "join": [lambda: run_in(EVEN, join=1), lambda: ring(EVEN, join=1)], "m": [lambda: num_bound(1, 1, 1)],
        "d": [
            lambda: counts_told(EVEN, 61), lambda: back(EVEN, (), d=7), lambda: Gather(EVEN, 7), lambda: rests_of(ODD, 1),
        ],
        "names": [lambda: back(EVEN, ["X"])], "gives": [lambda: between(EVEN, ~EVEN, 1)],
        "set": [lambda: Gather(EVEN, 1).one((7,), (0,))], "mark": [lambda: MarkTable(BELOW).fits(())],
        "inside": [lambda: number_of(ODD, LEAF, inside=10), lambda: Relations([ODD], inside=10)],
        "outside": [lambda: number_row(ODD, LEAF, outside=10), lambda: Relations([ODD], outside=10)],
        "rest": [lambda: rest_term(ODD, 2, 2)], "machines": [lambda: Relations(())],
        "numbers": [lambda: Relations([ODD]).holds(()), lambda: Relations([ODD]).broken_at(())],
        "rows": [lambda: Rank(ODD).told_by((1, 2))],
        "weights": [
            lambda: best(ODD, LEAF, ()), lambda: Weigh(1), lambda: FAMILY.top_weight(()), lambda: FAMILY.best_family(()),
            lambda: greedy(FAMILY, (1, -1)),
        ],
        "floor": [lambda: best_same(ODD, ODD, floor=1), lambda: best_against(ODD, ODD, floor=1)],
        "family": [lambda: greedy(Family(1, []), [1])], "form": [lambda: gain(LEAF, ()), lambda: Prices(ODD, (1,))],
        "n": [lambda: Sizes(EVEN).term(61)],
        "leaf": [lambda: Narrow(ODD).first_row(1), lambda: Narrow(ODD).word(1, ()), lambda: LeastSizes(ODD).row_of(1, ())],
        "letters": [lambda: Narrow(ODD).word(LEAF, 1), lambda: Narrow(ODD).total(LEAF, [1])],
        "letter": [lambda: Narrow(ODD).ways(1)],
    },
    "TooMany": {
        "places": [
            lambda: equal_by(GREAT, [], GREAT, []), lambda: list(symmetries(GREAT, [])), lambda: means(("in", "X", "X"), GREAT, {}),
            lambda: fitting(("in", "X", "X"), GREAT, "X", {}), lambda: number_fitting(("in", "X", "X"), GREAT, "X", {}),
            lambda: list(lots_of(ODD, STAR)), lambda: unmoved_lots(STAR), lambda: Family.of(ODD, STAR),
        ],
        "tracks": [
            lambda: atom_machine(("in", "A", "A"), TREES, "ABCDEF"), lambda: machine_of(("in", "A", "A"), TREES, names="ABCDEF"),
            lambda: best_same(counting_machine(TREES, 5, 2), counting_machine(TREES, 5, 2), floor=0),
        ],
        "run_in": [lambda: back(LONG, ())],
        "entries": [lambda: back(machine_of(("count", "every", 0, 0, 6), TREES), ())],
        "states": [lambda: Relations([SIXTY, ODD]), lambda: as_many(SIXTY, ODD)],
        "names": [
            lambda: greatest_saying(both_of(*[("in", "Z" + str(k), "Z") for k in range(100)]), "X"),
            lambda: closing_saying(both_of(*[("in", "Z" + str(k), "Z") for k in range(100)]), "X", "or"),
        ],
        "sizes": [lambda: Sizes(counting_machine(TREES, 0, 200))],
        "rows": [lambda: Growth(two_circles(7, 43)).number_rows, lambda: Growth(two_circles(7, 43)).greatest],
        "tables": [lambda: LeastSizes(two_circles(7, 43))],
    },
}


class RefusalsTest(unittest.TestCase):
    def test_each_class_by_functions_that_raise_it(self):
        for name, told in CALLS.items():
            for value, calls in told.items():
                for at, call in enumerate(calls):
                    with self.subTest(name=name, value=value, at=at):
                        refused(self, getattr(errors, name), call, value)

    def test_no_class_is_left_out(self):
        found = [name for name in vars(errors) if isinstance(getattr(errors, name), type)]
        self.assertEqual(sorted(list(CALLS) + ["LotError"]), sorted(found))


if __name__ == "__main__":
    unittest.main()
