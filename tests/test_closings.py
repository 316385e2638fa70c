import unittest
from itertools import combinations, product

from lotsayings.benches import Bench
from lotsayings.closings import breaking, broken, closed_everywhere, closing_saying
from lotsayings.compiler import machine_of
from lotsayings.errors import BadName, BadNumber, BadSaying, TooGreat, TooMany
from lotsayings.families import Family
from lotsayings.meanings import fitting, means, number_fitting
from lotsayings.rings import ring
from lotsayings.sayings import both_of, check_saying, counts_of, free_names, is_plain, put_in
from lotsayings.terms import many_of, size_of, tracks_of, web_of
from lotsayings.texts import read_saying, written
from tests.helpers import NAMED, WIDE, all_lots, chance_saying, refused, seeded, small_terms
from tests.test_families import chance_family, families_of

TREES = Bench.trees()
WORDS = Family.WORDS


def made_lot(word, lots):
    sets = [set(lot) for lot in lots]
    if word == "or":
        made = sets[0] | sets[1]
    elif word == "and":
        made = sets[0] & sets[1]
    elif word == "two":
        made = sets[0] & sets[1] | sets[0] & sets[2] | sets[1] & sets[2]
    else:
        made = sets[0] ^ sets[1] ^ sets[2]
    return tuple(sorted(made))


def broken_by_hand(lots, word, size):
    """The least tuple, all tuples one by one."""
    lots = sorted(lots)
    known = set(lots)
    if word == "box":
        for one, two in product(lots, repeat=2):
            for other in sorted(all_lots(size)):
                if set(one) & set(two) <= set(other) <= set(one) | set(two) and other not in known:
                    return one, two, other
        return None
    for chosen in product(lots, repeat=2 if word in ("or", "and") else 3):
        if made_lot(word, chosen) not in known:
            return chosen
    return None


class BrokenTest(unittest.TestCase):
    def test_all_small_families(self):
        for size in (1, 2, 3):
            for family in families_of(size):
                for word in WORDS:
                    self.assertEqual(broken(family, word), broken_by_hand(family.lots, word, size))

    def test_chance_families(self):
        chance = seeded(1081)
        for _ in range(120):
            size = chance.randint(4, 5)
            family = chance_family(chance, size, chance.choice([0.1, 0.3, 0.9, 0.95, 1]))
            word = chance.choice(WORDS)
            self.assertEqual(broken(family, word), broken_by_hand(family.lots, word, size))

    def test_great_boxes(self):
        lots = all_lots(10)
        whole = Family(10, lots)
        less = Family(10, [lot for lot in lots if lot != (3, 4, 7)])
        upper = Family(10, [lot for lot in lots if 5 in lot])
        even = Family(10, [lot for lot in lots if len(lot) % 2 == 0])
        for word in WORDS:
            self.assertIsNone(broken(whole, word))
            self.assertIsNone(broken(upper, word))
            self.assertIsNone(broken(Family(10, []), word))
        self.assertEqual(broken(less, "box"), ((), tuple(range(8)), (3, 4, 7)))
        self.assertEqual(broken(less, "or"), ((3,), (4, 7)))
        self.assertEqual(broken(less, "and"), (tuple(range(8)), (3, 4, 7, 8)))
        self.assertEqual(broken(less, "even"), ((), (0,), (0, 3, 4, 7)))
        self.assertEqual(broken(less, "two"), ((), tuple(range(8)), (3, 4, 7, 8)))
        self.assertIsNone(broken(even, "even"))
        self.assertEqual(broken(even, "or"), ((0, 1), (0, 2)))

    def test_words(self):
        for word in ("xor", "", "BOX", None, 1, ("or",), True):
            refused(self, BadNumber, lambda: broken(Family(1, []), word), "word")

    def test_what_closings_tell(self):
        for size in (1, 2, 3):
            for family in families_of(size):
                if family.lots:
                    self.check_box(family)
                self.check_and(family)
                looked = [lot for lot in all_lots(size) if family.looks(lot)]
                self.assertEqual(broken(family, "two") is None, all(lot in family for lot in looked))
                held = [len(family.held(one, two)) for one in all_lots(size) for two in all_lots(size)
                        if not set(one) & set(two)]
                self.assertEqual(broken(family, "even") is None, all(n & n - 1 == 0 for n in held))

    def check_box(self, family):
        meet = set.intersection(*[set(lot) for lot in family])
        union = set.union(*[set(lot) for lot in family])
        between = [lot for lot in all_lots(family.size) if meet <= set(lot) <= union]
        self.assertEqual(broken(family, "box") is None, all(lot in family for lot in between))

    def check_and(self, family):
        wanted = []
        for lot in all_lots(family.size):
            above = [set(other) for other in family if set(lot) <= set(other)]
            missing = [place for place in range(family.size) if place not in lot]
            if above and all(any(place not in other for other in above) for place in missing):
                wanted.append(lot)
        self.assertEqual(broken(family, "and") is None, all(lot in family for lot in wanted))


class SayingTest(unittest.TestCase):
    def test_word_for_word(self):
        s = ("to", "X", "Y")
        wanted = {
            "or": "all Z all Z0 or not and to Z Y to Z0 Y to | Z Z0 Y",
            "and": "all Z all Z0 or not and to Z Y to Z0 Y to & Z Z0 Y",
            "two": "all Z all Z0 all Z1 or not and to Z Y and to Z0 Y to Z1 Y to | & Z Z0 | & Z Z1 & Z0 Z1 Y",
            "even": "all Z all Z0 all Z1 or not and to Z Y and to Z0 Y to Z1 Y to ^ Z ^ Z0 Z1 Y",
            "box": "all Z all Z0 all Z1 or not and to Z Y and to Z0 Y and in & Z Z0 Z1 in Z1 | Z Z0 to Z1 Y",
        }
        for word, text in wanted.items():
            self.assertEqual(written(closing_saying(s, "X", word)), text)
            self.assertEqual(read_saying(text), closing_saying(s, "X", word))

    def test_place_names_and_names_that_stand(self):
        s = ("some", "Z", ("and", ("in", "x", "Z"), ("all", "Z1", ("to", "x", "Z1"))))
        made = closing_saying(s, "x", "or")
        fits = [put_in(s, "x", name) for name in ("Z0", "Z2", ("|", "Z0", "Z2"))]
        self.assertEqual(made, ("all", "Z0", ("all", "Z2", ("or", ("not", both_of(*fits[:2])), fits[2]))))
        self.assertEqual(free_names(made), ())
        check_saying(made)
        free = closing_saying(("to", "Z", "X"), "Z", "and")
        self.assertEqual(written(free), "all Z0 all Z1 or not and to Z0 X to Z1 X to & Z0 Z1 X")
        other = closing_saying(("to", "Y", "X"), "Z", "and")
        self.assertEqual(written(other), "all Z all Z0 or not and to Y X to Y X to Y X")

    def test_fresh_names_left(self):
        def used(many):
            names = ["Z"] + ["Z" + str(k) for k in range(100)]
            return both_of(*[("in", name, "X") for name in names[:many]])
        made = closing_saying(used(98), "X", "two")
        self.assertEqual((made[1], made[2][1], made[2][2][1]), ("Z97", "Z98", "Z99"))
        for word in WORDS:
            refused(self, TooMany, lambda: closing_saying(used(99), "X", word), "names")
        self.assertEqual(closing_saying(used(98), "X", "or")[2][1], "Z98")

    def test_refusals_in_their_order(self):
        s = ("in", "X", "Y")
        bench = TREES
        calls = (
            closing_saying,
            lambda saying, name, word: closed_everywhere(saying, name, bench, word),
            lambda saying, name, word: breaking(saying, name, bench, word),
        )
        for call in calls:
            refused(self, BadSaying, lambda: call(("in", "X", "1"), "1", "no"), (2,))
            for name in ("none", "every", "X100", "", None, 7):
                refused(self, BadName, lambda: call(s, name, "no"), name)
            for word in ("xor", None, "Or", 2):
                refused(self, BadNumber, lambda: call(s, "X", word), "word")
        five = both_of(*[("in", name, "X") for name in "ABC"])
        for call in calls[1:]:
            refused(self, TooMany, lambda: call(five, "X", "two"), "tracks")
            great = ("arrows", "X", "X", 3, 2, 4)
            for tried in ("or", "and"):
                with self.assertRaises(TooGreat) as caught:
                    machine_of(closing_saying(great, "X", tried), bench)
                refused(self, TooGreat, lambda: call(great, "X", tried), caught.exception.step)
        four = both_of(*[("in", name, "X") for name in "ABC"])
        self.assertTrue(closed_everywhere(four, "X", bench, "or"))

    def test_means_that_fitting_lots_are_closed(self):
        chance = seeded(1082)
        kinds = {word: [0, 0] for word in WORDS}
        for _ in range(70):
            saying = chance_saying(chance, ["X", "Y", "x"], chance.randint(0, 1))
            name = chance.choice(["X", "x"])
            bench = chance.choice(list(NAMED.values()))
            terms = list(small_terms(bench, 3, 0))
            term = chance.choice(terms)
            web = web_of(bench, term)
            lots = {other: chance.choice(all_lots(web.size)) for other in ("X", "Y", "x")}
            family = Family(web.size, fitting(saying, web, name, lots))
            for word in WORDS:
                meant = means(closing_saying(saying, name, word), web, lots)
                self.assertIs(meant, broken(family, word) is None)
                kinds[word][meant] += 1
        for counts in kinds.values():
            self.assertGreater(min(counts), 3, kinds)


class EverywhereTest(unittest.TestCase):
    def check_breaking(self, saying, name, bench, word, most):
        """breaking against all terms of some sizes."""
        try:
            closed = closed_everywhere(saying, name, bench, word)
        except (TooGreat, TooMany) as error:
            refused(self, type(error), lambda: breaking(saying, name, bench, word), *list(vars(error).values()))
            return None
        found = breaking(saying, name, bench, word)
        self.assertIs(found is None, closed)
        tracks = tuple(other for other in free_names(saying) if other != name)
        least = None
        for term in small_terms(bench, most, len(tracks)):
            lots = dict(zip(tracks, tracks_of(term)))
            web = web_of(bench, term)
            family = Family(web.size, fitting(saying, web, name, lots))
            if broken(family, word) is not None:
                least = web.size
                break
        if found is None:
            self.assertIsNone(least)
            return True
        term, lots = found
        self.assertEqual(many_of(term), len(tracks))
        if least is not None:
            self.assertEqual(size_of(term), least)
        else:
            self.assertGreater(size_of(term), most)
        told = dict(zip(tracks, tracks_of(term)))
        web = web_of(bench, term)
        self.assertIsInstance(lots, tuple)
        self.assertEqual(len(lots), 2 if word in ("or", "and") else 3)
        fits = [means(saying, web, {**told, name: lot}) for lot in lots]
        if word == "box":
            self.assertEqual(fits, [True, True, False])
            one, two, other = map(set, lots)
            self.assertTrue(one & two <= other <= one | two)
        else:
            self.assertTrue(all(fits))
            self.assertFalse(means(saying, web, {**told, name: made_lot(word, lots)}))
        return False

    def test_against_all_small_terms(self):
        chance = seeded(1083)
        found = []
        for turn in range(90):
            bench = chance.choice(list(NAMED.values()) + [WIDE])
            saying = chance_saying(chance, ["X", "Y"], turn % 2)
            word = WORDS[turn % 5]
            most = 2 if bench == WIDE else 3
            found.append(self.check_breaking(saying, chance.choice(["X", "X", "Y"]), bench, word, most))
        self.assertGreater(found.count(True), 8)
        self.assertGreater(found.count(False), 8)

    def test_named_families(self):
        self.assertEqual(self.check_breaking(("to", "every", "X"), "X", TREES, "and", 3), False)
        self.assertEqual(self.check_breaking(("to", "every", "X"), "X", TREES, "or", 3), True)
        self.assertEqual(self.check_breaking(("count", "X", 0, 0, 2), "X", TREES, "even", 3), True)
        self.assertEqual(self.check_breaking(("count", "X", 0, 0, 2), "X", Bench.cotrees(), "or", 3), False)
        self.assertEqual(self.check_breaking(("in", "Y", "X"), "X", Bench.boughs(), "box", 3), True)
        self.assertEqual(self.check_breaking(("not", ("to", "X", "X")), "X", Bench.narrow_rows(), "two", 3), True)
        self.assertEqual(self.check_breaking(("count", "x", 1, 2, 1), "x", TREES, "or", 3), False)
        free = ("not", ("to", "Y", "X"))
        self.assertEqual(self.check_breaking(free, "X", TREES, "or", 3), True)
        apart = ("and", ("not", ("to", "X", "X")), ("count", "X", 2, 3, 1))
        self.assertEqual(self.check_breaking(apart, "X", Bench.cotrees(), "and", 3), False)

    def test_great_terms_are_broken_too(self):
        saying = ("or", ("not", ("count", "every", 4, 4, 1)), ("count", "X", 1, 2, 1))
        term, lots = breaking(saying, "X", TREES, "or")
        self.assertEqual((size_of(term), [len(lot) for lot in lots]), (4, [1, 1]))
        fives = ("and", ("count", "X", 4, 4, 1), ("count", "every", 5, 0, 6))
        with self.assertRaises(TooGreat):
            breaking(fives, "X", TREES, "and")
        twos = ("and", ("count", "X", 1, 1, 1), ("count", "every", 0, 0, 5))
        term, lots = breaking(twos, "X", Bench.narrow_rows(), "and")
        self.assertEqual((size_of(term), set(lots[0]) & set(lots[1])), (5, set()))

    def test_rings_and_numbers(self):
        chance = seeded(1084)
        checked = 0
        for turn in range(40):
            saying = chance_saying(chance, ["X", "Y"], turn % 2)
            if not is_plain(saying):
                continue
            word = chance.choice(WORDS)
            try:
                machine = machine_of(closing_saying(saying, "X", word), TREES)
            except (TooGreat, TooMany):
                continue
            self.assertEqual(counts_of(saying) % ring(machine), 0)
            checked += 1
        self.assertGreater(checked, 15)
        even = ("count", ("&", "X", "Y"), 1, 0, 2)
        self.assertTrue(closed_everywhere(even, "X", Bench.cotrees(), "even"))
        for term in small_terms(Bench.cotrees(), 3, 1):
            web = web_of(Bench.cotrees(), term)
            many = number_fitting(even, web, "X", {"Y": tracks_of(term)[0]})
            self.assertEqual(many & many - 1, 0)


if __name__ == "__main__":
    unittest.main()
