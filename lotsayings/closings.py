"""Families that are closed by a word, and sayings whose fitting lots are on all webs."""

from lotsayings.compiler import machine_of
from lotsayings.errors import BadName, BadNumber, TooMany
from lotsayings.families import Family
from lotsayings.fillings import filled
from lotsayings.lots import is_name, lot_of_mask, mask_of
from lotsayings.sayings import MOST_FRESH, both_of, check_saying, free_names, names_among, put_in
from lotsayings.unmoved import all_lots_of
from lotsayings.verdicts import always, counter_term


def check_word(word):
    """BadNumber unless it is a word by which families can be closed."""
    if not isinstance(word, str) or word not in Family.WORDS:
        raise BadNumber("word")


class Closing:
    """What a word makes of lots of a family, lots told by their masks.

    All that matters of two lots X and Y is the lot of the places in both, and that of the places in just one.
    """

    def __init__(self, family, word):
        self.family = family
        self.how = word
        self.order = [mask_of(lot) for lot in family]
        self.others = [mask_of(lot) for lot in all_lots_of(family.size)] if word == "box" else self.order
        self.parts = {}
        self.known = {}

    def parts_in(self, single):
        """The parts of third lots that lie in the lot of the places in just one of X and Y."""
        if single not in self.parts:
            self.parts[single] = list({other & single: True for other in self.others})
        return self.parts[single]

    def is_broken(self, both, single):
        """Whether with X and Y, and some third lot if the word takes one, a lot is made that is not in the family."""
        # For "even" the places in both do not matter, so each lot of those in just one is looked at once.
        key = (0 if self.how == "even" else both, single)
        if key not in self.known:
            self.known[key] = self.misses(both, single)
        return self.known[key]

    def misses(self, both, single):
        """The same, found out anew."""
        masks = self.family.masks
        if self.how == "or":
            return both | single not in masks
        if self.how == "and":
            return both not in masks
        if self.how == "even":
            return any([other ^ single not in masks for other in self.order])
        return any([both | part not in masks for part in self.parts_in(single)])

    def third(self, both, single):
        """The first third lot that shows it, as a tuple of its mask; no lot if the word takes none."""
        masks = self.family.masks
        if self.how == "or" or self.how == "and":
            return ()
        for other in self.others:
            if self.how == "even" and other ^ single not in masks:
                return (other,)
            if self.how == "two" and both | other & single not in masks:
                return (other,)
            if self.how == "box" and other not in masks and other & ~single == both:
                return (other,)
        return ()


def broken(family, word):
    """None if the family is closed by the word, else the least tuple of lots that shows that it is not."""
    check_word(word)
    closing = Closing(family, word)
    for at, one in enumerate(closing.order):
        for two in closing.order[at:]:
            if closing.is_broken(one & two, one ^ two):
                masks = (one, two) + closing.third(one & two, one ^ two)
                return tuple([lot_of_mask(mask, family.size) for mask in masks])
    return None


def fresh_three(saying):
    """The first three of Z, Z0, Z1, .. that stand nowhere in the saying; TooMany if fewer are left."""
    used = names_among(saying, True)
    names = [name for name in ["Z"] + ["Z" + str(k) for k in range(MOST_FRESH)] if name not in used]
    if len(names) < 3:
        raise TooMany("names")
    return names[:3]


def closing_parts(saying, name, word):
    """The names of the lots that the closing saying speaks of, and what it says of all of them."""
    check_saying(saying)
    if not is_name(name):
        raise BadName(name)
    check_word(word)
    names = fresh_three(saying)
    p, q, r = names
    fits = [put_in(saying, name, other) for other in names]
    both = ("&", p, q)
    either = ("|", p, q)
    given = fits if word in ("two", "even") else fits[:2]
    if word == "box":
        given = given + [("in", both, r), ("in", r, either)]
    made = {
        "or": either,
        "and": both,
        "two": ("|", both, ("|", ("&", p, r), ("&", q, r))),
        "even": ("^", p, ("^", q, r)),
        "box": r,
    }
    body = ("or", ("not", both_of(*given)), put_in(saying, name, made[word]))
    return names[:2] if word in ("or", "and") else names, body


def closing_saying(saying, name, word):
    """The saying that the lots that fit the saying for the name are closed by the word."""
    names, whole = closing_parts(saying, name, word)
    for other in names[::-1]:
        whole = ("all", other, whole)
    return whole


def closed_everywhere(saying, name, bench, word):
    """Whether the closing saying is true on all coloured webs of the bench."""
    return always(machine_of(closing_saying(saying, name, word), bench))


def breaking(saying, name, bench, word):
    """None if the closing saying is true everywhere, else a term of the fewest places where it is not, and lots."""
    whole = closing_saying(saying, name, word)
    term = counter_term(machine_of(whole, bench))
    if term is None:
        return None
    names, body = closing_parts(saying, name, word)
    spoilt = machine_of(("not", body), bench, names=free_names(whole) + tuple(names))
    return term, filled(spoilt, term)
