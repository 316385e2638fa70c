"""The greedy way to a lot of a great weight."""

from lotsayings.cuts import are_integers
from lotsayings.errors import BadNumber
from lotsayings.lots import lot_of_mask, mask_of


def below_lots(family):
    """A dict of True for the masks of all lots that lie in some lot of the family."""
    below = {mask: True for mask in family.masks}
    for place in range(family.size):
        for mask in list(below):
            below[mask & ~(1 << place)] = True
    return below


def greedy(family, weights):
    """The lot to which the places lead that are taken by weight, the heaviest first, equal ones by number."""
    if len(family) == 0:
        raise BadNumber("family")
    if not are_integers(weights, family.size) or min(weights) < 0:
        raise BadNumber("weights")
    below = below_lots(family)
    whole = 0
    for _, place in sorted([(-weight, place) for place, weight in enumerate(weights)]):
        if whole | 1 << place in below:
            whole = whole | 1 << place
    return lot_of_mask(whole, family.size)


def exchanges(family):
    """Whether each place of a top lot can be exchanged for some place of each other one that does not have it."""
    tops = [mask_of(lot) for lot in family.tops()]
    known = {mask: True for mask in tops}
    digits = [1 << place for place in range(family.size)]
    for one in tops:
        for two in tops:
            gained = [digit for digit in digits if two & ~one & digit]
            for lost in [digit for digit in digits if one & ~two & digit]:
                if not any([one ^ lost ^ digit in known for digit in gained]):
                    return False
    return True


def greedy_against(family):
    """Weights of which none is below 0 for which the greedy lot is no best lot, None if there are none.

    If greedy fails at all, some lot below the family that no place of a greater one can join makes it fail: let its
    places weigh a little more than those of the greater one.
    """
    below = below_lots(family)
    greatest = greatest_within(below, family.size)
    for mask in below:
        free = mask
        for place in range(family.size):
            if mask | 1 << place not in below:
                free = free | 1 << place
        rival = greatest.get(free, mask)
        many = len(lot_of_mask(mask, family.size))
        if len(lot_of_mask(rival, family.size)) > many:
            return tuple([weight_at(place, mask, rival, many) for place in range(family.size)])
    return None


def weight_at(place, mask, rival, many):
    """The weight of a place: many + 2 in the lot of so many places, many + 1 in the rest of its rival, else 0."""
    if mask >> place & 1:
        return many + 2
    return many + 1 if rival >> place & 1 else 0


def greatest_within(below, size):
    """For each lot a lot of the most places that lies in it and below the family."""
    greatest = {}
    for mask in range(1 << size):
        lot = mask if mask in below else 0
        for place in range(size):
            if mask >> place & 1 and mask not in below:
                other = greatest.get(mask ^ 1 << place, 0)
                if len(lot_of_mask(other, size)) > len(lot_of_mask(lot, size)):
                    lot = other
        greatest[mask] = lot
    return greatest
