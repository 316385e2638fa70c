"""What sayings mean on a single web with lots.

Lots are numbers here, with the digit of 2^x for each place x. Each saying is first turned into a function from
a dict of such numbers to True or False, so that its parts are looked at once and not for each lot that is tried.
"""

from lotsayings.cuts import folded
from lotsayings.errors import BadName, NoLot, TooMany
from lotsayings.lots import ALL_PLACES, NO_PLACE, combined, is_name, is_place_name, lot_of_mask, mask_of
from lotsayings.sayings import free_names
from lotsayings.webs import lot_of

MOST_PLACES = 10


class Places:
    """The places and arrows of a small web: goals has a number for the lot that each place sends arrows to."""

    def __init__(self, web):
        self.many = web.size
        self.goals = [mask_of(web.sent(x)) for x in range(web.size)]
        self.whole = (1 << web.size) - 1
        self.places = [1 << x for x in range(web.size)]
        self.lots = list(range(1 << web.size))
        self.ones = ones_up_to(web.size)


def ones_up_to(size):
    """For each number below 2^size how many of its digits are 1."""
    ones = [0]
    for _ in range(size):
        ones = ones + [many + 1 for many in ones]
    return ones


def lot_told(expression, places):
    """A function from lots to the lot of an expression."""
    if isinstance(expression, tuple):
        sign = expression[0]
        one = lot_told(expression[1], places)
        two = lot_told(expression[2], places)
        return lambda lots: combined(sign, one(lots), two(lots))
    if expression == NO_PLACE:
        return lambda lots: 0
    if expression == ALL_PLACES:
        whole = places.whole
        return lambda lots: whole
    return lambda lots: lots[expression]


def told_in(saying, places):
    """Truth of "in": the first lot lies in the second one."""
    one = lot_told(saying[1], places)
    two = lot_told(saying[2], places)
    return lambda lots: one(lots) & ~two(lots) == 0


def told_to(saying, places):
    """Truth of "to": a place of the first lot has an arrow to one of the second lot."""
    many = arrows_told(saying[1], saying[2], places)
    return lambda lots: many(lots) > 0


def told_count(saying, places):
    """Truth of "count": the number of places, cut by (t, d), is a."""
    lot = lot_told(saying[1], places)
    ones = places.ones
    a, t, d = saying[2:]
    return lambda lots: folded(ones[lot(lots)], t, d) == a


def told_arrows(saying, places):
    """Truth of "arrows": the number of arrows, cut by (t, d), is a."""
    many = arrows_told(saying[1], saying[2], places)
    a, t, d = saying[3:]
    return lambda lots: folded(many(lots), t, d) == a


def arrows_told(one, two, places):
    """A function from lots to the number of arrows from the lot of one expression to that of another one."""
    start = lot_told(one, places)
    goal = lot_told(two, places)
    goals = places.goals
    ones = places.ones

    def many(lots):
        sources = start(lots)
        targets = goal(lots)
        return sum([ones[sent & targets] for x, sent in enumerate(goals) if sources >> x & 1])

    return many


def told_not(saying, places):
    """Truth of "not"."""
    part = truth_told(saying[1], places)
    return lambda lots: not part(lots)


def told_and(saying, places):
    """Truth of "and"."""
    one = truth_told(saying[1], places)
    two = truth_told(saying[2], places)
    return lambda lots: one(lots) and two(lots)


def told_or(saying, places):
    """Truth of "or"."""
    one = truth_told(saying[1], places)
    two = truth_told(saying[2], places)
    return lambda lots: one(lots) or two(lots)


def tried_for(name, places):
    """The lots that a bound name may stand for."""
    return places.places if is_place_name(name) else places.lots


def told_some(saying, places):
    """Truth of "some": the saying in it is true for some lot."""
    return some_told(saying[1], truth_told(saying[2], places), places, True)


def told_all(saying, places):
    """Truth of "all": there is no lot for which the saying in it is false."""
    found = some_told(saying[1], truth_told(saying[2], places), places, False)
    return lambda lots: not found(lots)


def some_told(name, part, places, wanted):
    """A function from lots to whether part gives the wanted truth for some lot for the name."""
    tried = tried_for(name, places)

    def found(lots):
        for lot in tried:
            if part({**lots, name: lot}) == wanted:
                return True
        return False

    return found


def told_num(saying, places):
    """Truth of "num": the number of lots for which the saying in it is true leaves the rest a by d."""
    a, d, name = saying[1:4]
    part = truth_told(saying[4], places)
    tried = tried_for(name, places)
    return lambda lots: len([lot for lot in tried if part({**lots, name: lot})]) % d == a


TOLD = {
    "in": told_in,
    "to": told_to,
    "count": told_count,
    "arrows": told_arrows,
    "not": told_not,
    "and": told_and,
    "or": told_or,
    "some": told_some,
    "all": told_all,
    "num": told_num,
}


def truth_told(saying, places):
    """A function from lots to the truth of the saying."""
    maker = TOLD[saying[0]]
    return maker(saying, places)


def masks_for(names, size, lots):
    """A dict of the lots of the names, as numbers."""
    masks = {}
    for name in names:
        if name not in lots:
            raise NoLot(name)
        masks[name] = mask_of(lot_of(lots[name], size))
    return masks


def check_places(web):
    """TooMany if a web has too many places to try all lots."""
    if web.size > MOST_PLACES:
        raise TooMany("places")


def means(saying, web, lots):
    """Whether the saying is true on the web with the lots."""
    check_places(web)
    masks = masks_for(free_names(saying), web.size, lots)
    truth = truth_told(saying, Places(web))
    return truth(masks)


def fitting(saying, web, name, lots):
    """All lots that fit for the name, ascending."""
    check_places(web)
    if not is_name(name):
        raise BadName(name)
    others = [other for other in free_names(saying) if other != name]
    masks = masks_for(others, web.size, lots)
    places = Places(web)
    truth = truth_told(saying, places)
    fits = [lot for lot in places.lots if truth({**masks, name: lot})]
    return sorted([lot_of_mask(lot, web.size) for lot in fits])


def number_fitting(saying, web, name, lots):
    """How many lots fit for the name."""
    return len(fitting(saying, web, name, lots))
