"""Sayings: their parts, their free names, and putting expressions in for names."""

from math import lcm

from lotsayings.cuts import is_between
from lotsayings.errors import BadName, BadNumber, BadSaying, TooMany
from lotsayings.lots import check_expression, check_expression_at, is_name, is_place_name, names_in

# What stands behind each word, in order: lot expressions, sayings, names, and the numbers a, t, d.
PARTS = {
    "in": ("lot", "lot"),
    "to": ("lot", "lot"),
    "count": ("lot", "a", "t", "d"),
    "arrows": ("lot", "lot", "a", "t", "d"),
    "not": ("saying",),
    "and": ("saying", "saying"),
    "or": ("saying", "saying"),
    "some": ("name", "saying"),
    "all": ("name", "saying"),
    "num": ("a", "num d", "name", "saying"),
}
SINGLE = ("in", "to", "count", "arrows")
BINDING = ("some", "all", "num")
MOST_FRESH = 100


def check_saying(saying):
    """None if it is a saying, else BadSaying with the path to the first wrong part."""
    check_saying_at(saying, ())


def check_saying_at(saying, path):
    """None if it is a saying, else BadSaying; path leads to the saying."""
    if not isinstance(saying, tuple) or not saying or not isinstance(saying[0], str):
        raise BadSaying(path)
    kinds = PARTS.get(saying[0], ())
    if not kinds or len(saying) != len(kinds) + 1:
        raise BadSaying(path)
    for at in judged(saying[0], kinds):
        kind = kinds[at - 1]
        deeper = path + (at,)
        if kind == "saying":
            check_saying_at(saying[at], deeper)
        elif kind == "lot":
            check_expression_at(saying[at], deeper)
        elif not plain_part_fits(saying, at, kind):
            raise BadSaying(deeper)


def judged(word, kinds):
    """The indices of the parts behind a word in the order in which they are judged."""
    if word == "num":
        return [2, 1, 3, 4]
    if "a" in kinds:
        a = kinds.index("a") + 1
        return list(range(1, a)) + [a + 1, a + 2, a]
    return list(range(1, len(kinds) + 1))


def plain_part_fits(saying, at, kind):
    """Whether a name or a number in a saying can stand there; t and d are judged ahead of a."""
    if kind == "name":
        return is_name(saying[at])
    if kind == "t":
        return is_between(saying[at], 0, 4)
    if kind == "d":
        return is_between(saying[at], 1, 6)
    if kind == "num d":
        return is_between(saying[at], 2, 6)
    if saying[0] == "num":
        return is_between(saying[at], 0, saying[2] - 1)
    return is_between(saying[at], 0, saying[-2] + saying[-1] - 1)


def parts_of(saying, kind):
    """The parts of a kind in a saying, from left to right."""
    kinds = PARTS[saying[0]]
    return [saying[i + 1] for i, other in enumerate(kinds) if other == kind]


def names_among(saying, bound):
    """A dict of True for each free name; with bound=True for each name that stands in the saying at all."""
    found = {}
    for expression in parts_of(saying, "lot"):
        for name in names_in(expression):
            found[name] = True
    for part in parts_of(saying, "saying"):
        found.update(names_among(part, bound))
    for name in parts_of(saying, "name"):
        if bound:
            found[name] = True
        elif name in found:
            del found[name]
    return found


def free_names(saying):
    """The free names, ascending."""
    return tuple(sorted(names_among(saying, False)))


def counts_of(saying):
    """The least common multiple of the d's of the counts and arrows."""
    counts = 1
    for d in parts_of(saying, "d"):
        counts = lcm(counts, d)
    for part in parts_of(saying, "saying"):
        counts = lcm(counts, counts_of(part))
    return counts


def is_plain(saying):
    """Whether no num stands in the saying."""
    if saying[0] == "num":
        return False
    return all([is_plain(part) for part in parts_of(saying, "saying")])


def nest_of(saying):
    """How deep sayings stand in the saying, 0 for a single one."""
    return max([nest_of(part) + 1 for part in parts_of(saying, "saying")], default=0)


class Spare:
    """Hands out fresh names, none of which was used before."""

    def __init__(self, used):
        self.used = used

    def take(self, bound):
        """The first fresh name of the kind of a bound one."""
        letter = "z" if is_place_name(bound) else "Z"
        for name in [letter] + [letter + str(k) for k in range(MOST_FRESH)]:
            if name not in self.used:
                self.used[name] = True
                return name
        raise TooMany("names")


def put_in(saying, name, expression):
    """The saying with the expression for each free name so called; bound names give way to fresh ones."""
    check_saying(saying)
    if not is_name(name):
        raise BadName(name)
    check_expression(expression)
    used = names_among(saying, True)
    for other in names_in(expression):
        used[other] = True
    return replaced(saying, name, expression, Spare(used))


def replaced(saying, name, expression, spare):
    """The saying with the expression for the free name; spare gives the fresh names."""
    if name not in names_among(saying, False):
        return saying
    word = saying[0]
    if word in BINDING:
        bound = saying[-2]
        body = saying[-1]
        if bound in names_in(expression):
            fresh = spare.take(bound)
            body = replaced(body, bound, fresh, spare)
            bound = fresh
        return saying[:-2] + (bound, replaced(body, name, expression, spare))
    parts = [word]
    for kind, part in zip(PARTS[word], saying[1:]):
        if kind == "lot":
            parts.append(in_expression(part, name, expression))
        elif kind == "saying":
            parts.append(replaced(part, name, expression, spare))
        else:
            parts.append(part)
    return tuple(parts)


def in_expression(old, name, expression):
    """The old expression with the other one for each name so called."""
    if isinstance(old, tuple):
        left = in_expression(old[1], name, expression)
        return (old[0], left, in_expression(old[2], name, expression))
    return expression if old == name else old


def both_of(*sayings):
    """The saying that all of these are true, joined from the right."""
    return joined_by("and", sayings)


def either_of(*sayings):
    """The saying that one of these at least is true, joined from the right."""
    return joined_by("or", sayings)


def joined_by(word, sayings):
    """One or more sayings joined by a word from the right."""
    if not sayings:
        raise BadNumber("sayings")
    whole = sayings[-1]
    for saying in sayings[-2::-1]:
        whole = (word, saying, whole)
    return whole
