"""What several tests need: chosen benches, chance terms and sayings, and meanings by sets."""

import random
from itertools import combinations, product
from math import prod

from lotsayings.benches import Bench
from lotsayings.machines import Machine
from lotsayings.terms import all_terms, size_of, web_of

NAMED = {
    "trees": Bench.trees(),
    "boughs": Bench.boughs(),
    "cotrees": Bench.cotrees(),
    "narrow_rows": Bench.narrow_rows(),
}
WIDE = Bench(
    3,
    (0, 2),
    (
        (((0, 1), (2, 2)), ((0, 0),), (1, 2, 0), (0, 1, 2)),
        (((1, 0),), ((0, 2), (1, 1)), (0, 0, 2), (2, 1, 1)),
        ((), ((2, 0),), (2, 0, 1), (1, 1, 0)),
    ),
)


def chance_bench(chance, labels, joins):
    pairs = list(product(range(labels), repeat=2))
    starts = tuple(sorted(chance.sample(range(labels), chance.randint(1, labels))))
    rows = []
    for _ in range(joins):
        fore = tuple(pair for pair in pairs if chance.random() < 0.4)
        back = tuple(pair for pair in pairs if chance.random() < 0.3)
        left = tuple(chance.randrange(labels) for _ in range(labels))
        right = tuple(chance.randrange(labels) for _ in range(labels))
        rows.append((fore, back, left, right))
    return Bench(labels, starts, tuple(rows))


def chance_term(chance, bench, size, many):
    if size == 1:
        return (chance.choice(bench.starts), tuple(chance.randint(0, 1) for _ in range(many)))
    less = chance.randint(1, size - 1)
    left = chance_term(chance, bench, less, many)
    return (chance.randrange(len(bench)), left, chance_term(chance, bench, size - less, many))


def chance_context(chance, bench, size, many):
    if size == 0:
        return None
    side = chance.randint(1, size)
    inner = chance_context(chance, bench, size - side, many)
    term = chance_term(chance, bench, side, many)
    j = chance.randrange(len(bench))
    return (j, inner, term) if chance.random() < 0.5 else (j, term, inner)


def chance_machine(chance, bench, many, states):
    leaves = tuple(tuple(chance.randrange(states) for _ in range(1 << many)) for _ in bench.starts)
    rows = tuple(
        tuple(tuple(chance.randrange(states) for _ in range(states)) for _ in range(states)) for _ in bench.joins
    )
    accepted = tuple(state for state in range(states) if chance.random() < 0.5)
    return Machine(bench, many, leaves, rows, accepted)


def chance_expression(chance, names):
    luck = chance.random()
    if luck < 0.6:
        return chance.choice(names)
    if luck < 0.7:
        return chance.choice(["none", "every"])
    return (chance.choice("&|-^"), chance_expression(chance, names), chance_expression(chance, names))


def chance_single(chance, names):
    word = chance.choice(["in", "to", "count", "arrows"])
    one = chance_expression(chance, names)
    two = chance_expression(chance, names)
    t = chance.randint(0, 4)
    d = chance.randint(1, 6)
    a = chance.randrange(t + d)
    if word == "count":
        return (word, one, a, t, d)
    return (word, one, two, a, t, d) if word == "arrows" else (word, one, two)


def chance_saying(chance, names, nest):
    if nest == 0:
        return chance_single(chance, names)
    word = chance.choice(["not", "and", "or", "some", "all", "num"])
    part = chance_saying(chance, names, nest - 1)
    if word == "not":
        return (word, part)
    if word in ("and", "or"):
        return (word, part, chance_saying(chance, names, nest - 1))
    name = chance.choice(names)
    if word == "num":
        d = chance.randint(2, 6)
        return (word, chance.randrange(d), d, name, part)
    return (word, name, part)


def letters(size, many):
    """All rows of bits for a term of that size."""
    return product(product((0, 1), repeat=many), repeat=size)


def dressed(term, rows):
    """The term with the rows of bits at its leaves, from left to right."""
    rows = list(rows)

    def walk(part):
        if len(part) == 2:
            return (part[0], tuple(rows.pop(0)))
        left = walk(part[1])
        return (part[0], left, walk(part[2]))

    return walk(term)


def small_terms(bench, most, many):
    """All terms up to a size with all rows of bits."""
    for size in range(1, most + 1):
        for term in all_terms(bench, size):
            for rows in letters(size, many):
                yield dressed(term, rows)


def with_bit(term, track, lot):
    """The term with one track more, before track number track, for the lot."""
    places = iter(range(size_of(term)))

    def walk(part):
        if len(part) == 2:
            bit = 1 if next(places) in lot else 0
            return (part[0], part[1][:track] + (bit,) + part[1][track:])
        left = walk(part[1])
        return (part[0], left, walk(part[2]))

    return walk(term)


def all_lots(size):
    return [lot for many in range(size + 1) for lot in combinations(range(size), many)]


def fold(number, t, d):
    """The integers up to number, cut: the least one from t on with the same rest."""
    if number < t:
        return number
    return next(least for least in range(t, t + d) if (number - least) % d == 0)


def lot_as_set(expression, size, lots):
    if expression == "none":
        return set()
    if expression == "every":
        return set(range(size))
    if isinstance(expression, str):
        return set(lots[expression])
    one = lot_as_set(expression[1], size, lots)
    two = lot_as_set(expression[2], size, lots)
    return {"&": one & two, "|": one | two, "-": one - two, "^": one ^ two}[expression[0]]


def true_by_sets(saying, size, arrows, lots):
    """The meaning of a saying, straight from point 10."""
    word = saying[0]
    if word in ("in", "to", "arrows"):
        one = lot_as_set(saying[1], size, lots)
        two = lot_as_set(saying[2], size, lots)
        between = [(x, y) for x, y in arrows if x in one and y in two]
        if word == "in":
            return one <= two
        return bool(between) if word == "to" else fold(len(between), saying[4], saying[5]) == saying[3]
    if word == "count":
        return fold(len(lot_as_set(saying[1], size, lots)), saying[3], saying[4]) == saying[2]
    if word == "not":
        return not true_by_sets(saying[1], size, arrows, lots)
    if word in ("and", "or"):
        both = [true_by_sets(part, size, arrows, lots) for part in saying[1:]]
        return all(both) if word == "and" else any(both)
    name = saying[-2]
    tried = [(x,) for x in range(size)] if name[0].islower() else all_lots(size)
    many = sum(true_by_sets(saying[-1], size, arrows, {**lots, name: lot}) for lot in tried)
    if word == "some":
        return many > 0
    return many == len(tried) if word == "all" else many % saying[2] == saying[1]


def seeded(seed):
    return random.Random(seed)


def chance_web_machine(chance, many, cuts):
    """A machine on trees that counts, by cuts, the children of each of as many chance colours."""
    while prod(t + d for t, d in cuts) << many > 100:
        cuts = cuts[1:]
    base = max(t + d for t, d in cuts)
    colours = {}

    def colour_of(code):
        return colours.setdefault(code, chance.randrange(len(cuts)))

    def leaf(_, bits):
        return sum(bit << k for k, bit in enumerate(bits))

    def join(_, p, q):
        colour = colour_of(q)
        weight = base ** colour << many
        count = p // weight % base
        return p + (fold(count + 1, *cuts[colour]) - count) * weight

    machine = Machine.told(Bench.trees(), many, leaf, join)
    return machine.accepting(tuple(state for state in range(machine.states) if chance.random() < 0.5))


def chance_cuts(chance):
    return [(chance.randint(0, 2), chance.randint(1, 3)) for _ in range(chance.randint(1, 3))]


def children_by_web(bench, term):
    """For each place of a tree its children, told by the arrows."""
    rows = {x: [] for x in range(size_of(term))}
    for x, y in web_of(bench, term).arrows:
        rows[x].append(y)
    return rows


def counting_machine(bench, many, d, rest=0):
    """The number of places in the last track (of all places, without tracks) leaves the rest by d."""
    leaves = tuple(
        tuple((bits >> many - 1 if many else 1) % d for bits in range(1 << many)) for _ in bench.starts
    )
    table = tuple(tuple((p + q) % d for q in range(d)) for p in range(d))
    return Machine(bench, many, leaves, (table,) * len(bench), (rest,))


def refused(case, error, call, told=None):
    """That the call raises the error, and with what it tells."""
    with case.assertRaises(error) as caught:
        call()
    if told is not None:
        case.assertEqual(list(vars(caught.exception).values()), [told])


BENCHES = list(NAMED.values()) + [WIDE]
