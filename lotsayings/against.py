"""Weights against closings, and machines with the same best weights."""

from lotsayings.atoms import atom_machine
from lotsayings.closings import broken
from lotsayings.cuts import check_number
from lotsayings.errors import BadNumber, OtherBench, OtherTracks, TooMany
from lotsayings.lots import lot_of_mask
from lotsayings.machines import MOST_TRACKS
from lotsayings.steps import moved_letters, pairs, sets_without
from lotsayings.terms import colour, size_of, tracks_of
from lotsayings.verdicts import agree, gives, giving_term, parting_term


def weights_against(family, word):
    """Weights which show that the family is not closed by "box", or not by "or" and "and"; None if it is."""
    if word == "box":
        return weights_against_box(family)
    if word != "or-and":
        raise BadNumber("word")
    return weights_against_lattice(family)


def weights_against_box(family):
    """Weights for which only a lot that is missing has the weight that a box would have."""
    found = broken(family, "box")
    if found is None:
        return None
    return tuple([1 if place in found[2] else -1 for place in range(family.size)])


def weights_against_lattice(family):
    """Weights for which two lots are best ones, and no lot in which both lie is.

    Take the two lots with the fewest places in just one of them that miss their union or their meet. Then nothing
    else of the family lies between its meet and its union but the one of these two that is not missed, if any. The
    weights bar all lots that do not lie between.
    """
    pair = nearest_pair(family)
    if pair is None:
        return None
    one, two = pair
    sign = -1 if one | two in family.masks else 1
    ones = len(lot_of_mask(one & ~two, family.size))
    twos = len(lot_of_mask(two & ~one, family.size))
    bar = 2 * ones * twos + 1
    told = {(0, 0): -bar, (1, 1): bar, (1, 0): sign * twos, (0, 1): sign * ones}
    return tuple([told[one >> place & 1, two >> place & 1] for place in range(family.size)])


def nearest_pair(family):
    """The masks of two lots that miss their union or their meet, with the fewest places in just one of them."""
    masks = list(family.masks)
    found = None
    for at, one in enumerate(masks):
        for two in masks[:at]:
            if one | two not in family.masks or one & two not in family.masks:
                apart = len(lot_of_mask(one ^ two, family.size))
                if found is None or apart < found[0]:
                    found = (apart, (one, two))
    return None if found is None else found[1]


def holds_against(family):
    """Lots inside and outside that hold neither no lot nor a power of two of lots, None if there are none."""
    todo = [(0, (), (), list(family.masks))]
    while todo:
        place, inside, outside, masks = todo.pop()
        if place < family.size and masks:
            todo.append((place + 1, inside, outside, masks))
            todo.append((place + 1, inside, outside + (place,), [mask for mask in masks if not mask >> place & 1]))
            todo.append((place + 1, inside + (place,), outside, [mask for mask in masks if mask >> place & 1]))
        elif len(masks) & len(masks) - 1:
            return inside, outside
    return None


def check_same(machine, other, floor):
    """OtherBench, OtherTracks, BadNumber, TooMany as the functions below raise them ahead of all else."""
    if machine.bench != other.bench:
        raise OtherBench()
    if machine.many != other.many or machine.many == 0:
        raise OtherTracks()
    if floor is not None:
        check_number(floor, "floor", 0, 0)
        if machine.many == MOST_TRACKS:
            raise TooMany("tracks")


def holders(machine):
    """The machine that answers whether the lot of the last track lies in a lot that fits the machine."""
    last = machine.many - 1
    inside = atom_machine(("in", "X", "Y"), machine.bench, ("X", "Y"))
    wide = moved_letters(machine, list(range(last)) + [last + 1], last + 2)
    return sets_without(pairs(wide, moved_letters(inside, [last, last + 1], last + 2), "and"), last + 1)


def best_same(machine, other, *, floor=None):
    """Whether the best weights are the same at all terms for all weights, with floor 0 for all that are not below 0."""
    check_same(machine, other, floor)
    if floor is None:
        return agree(machine, other)
    own = holders(machine)
    others = holders(other)
    ways = [gives(machine, others), gives(other, own)]
    return all(ways)


def best_against(machine, other, *, floor=None):
    """A term of the fewest places, and weights, for which the best weights differ; None if they are the same."""
    check_same(machine, other, floor)
    if floor is None:
        found = [parting_term(machine, other)]
    else:
        own = holders(machine)
        others = holders(other)
        found = [giving_term(machine, others), giving_term(other, own)]
    known = [(size_of(term), at) for at, term in enumerate(found) if term is not None]
    if not known:
        return None
    term = found[min(known)[1]]
    tracks = tracks_of(term)
    low = -1 if floor is None else 0
    return colour(term, tracks[:-1]), tuple([1 if place in tracks[-1] else low for place in range(size_of(term))])
