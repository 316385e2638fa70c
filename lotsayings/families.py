"""Families of lots of a few places."""

from lotsayings.cuts import are_integers, check_number, is_between
from lotsayings.errors import BadLot, BadNumber, TooMany
from lotsayings.lots import mask_of
from lotsayings.numbers import both_states, check_tracks
from lotsayings.terms import check_term, size_of
from lotsayings.unmoved import MOST_PLACES, all_lots_of
from lotsayings.walks import numbered_parts
from lotsayings.webs import lot_of


def is_lot(value, size):
    """Whether value is a list or tuple of different places."""
    if not isinstance(value, (list, tuple)):
        return False
    return all([is_between(place, 0, size - 1) and value.count(place) == 1 for place in value])


def weight_of(lot, weights):
    """The sum of the weights of the places of a lot."""
    return sum([weights[place] for place in lot])


class Family:
    """A set of lots of the places 0 .. size - 1."""

    WORDS = ("box", "or", "and", "two", "even")

    def __init__(self, size, lots):
        check_number(size, "size", 1, MOST_PLACES)
        if not isinstance(lots, (list, tuple)):
            raise BadLot()
        told = [lot_of(lot, size) for lot in lots]
        self.size = size
        self.lots = tuple(sorted(told))
        self.masks = {mask_of(lot): True for lot in self.lots}
        if len(self.masks) != len(self.lots):
            raise BadLot()

    def __contains__(self, lot):
        return is_lot(lot, self.size) and mask_of(lot) in self.masks

    def __len__(self):
        return len(self.lots)

    def __iter__(self):
        return iter(self.lots)

    def __eq__(self, other):
        return isinstance(other, Family) and self.size == other.size and self.lots == other.lots

    def __and__(self, other):
        check_sizes(self, other)
        return Family(self.size, [lot for lot in self.lots if mask_of(lot) in other.masks])

    def __or__(self, other):
        check_sizes(self, other)
        return Family(self.size, list(self.lots) + [lot for lot in other.lots if mask_of(lot) not in self.masks])

    @classmethod
    def of(cls, machine, term):
        """The family of the lots that fit the machine at the term."""
        check_tracks(machine)
        check_term(machine.bench, term, machine.many - 1)
        size = size_of(term)
        if size > MOST_PLACES:
            raise TooMany("places")
        masks = fitting_masks(machine, term)
        return cls(size, [lot for lot in all_lots_of(size) if mask_of(lot) in masks])

    def tops(self):
        """The lots that lie in no other one."""
        return tuple([lot for lot in self.lots if not self.is_below(mask_of(lot))])

    def is_below(self, mask):
        """Whether a lot, by its mask, lies in another one of the family."""
        return any([mask & other == mask and mask != other for other in self.masks])

    def check_weights(self, weights):
        """BadNumber unless these are integers, one for each place."""
        if not are_integers(weights, self.size):
            raise BadNumber("weights")

    def top_weight(self, weights):
        """The greatest weight of a lot, None for the empty family."""
        self.check_weights(weights)
        return max([weight_of(lot, weights) for lot in self.lots], default=None)

    def best_family(self, weights):
        """The family of the lots of the greatest weight."""
        greatest = self.top_weight(weights)
        return Family(self.size, [lot for lot in self.lots if weight_of(lot, weights) == greatest])

    def held(self, inside, outside):
        """The family of the lots that have all places of one lot and none of another one."""
        wanted = mask_of(lot_of(inside, self.size))
        barred = mask_of(lot_of(outside, self.size))
        kept = [lot for lot in self.lots if mask_of(lot) & (wanted | barred) == wanted]
        return Family(self.size, [] if wanted & barred else kept)

    def looks(self, lot):
        """Whether for each two places some lot of the family has the same ones of them as the lot."""
        mask = mask_of(lot_of(lot, self.size))
        pairs = [1 << x | 1 << y for x in range(self.size) for y in range(x)] if self.size > 1 else [1]
        return all([any([(mask ^ other) & pair == 0 for other in self.masks]) for pair in pairs])


def check_sizes(one, two):
    """BadNumber unless two families have as many places."""
    if one.size != two.size:
        raise BadNumber("size")


def fitting_masks(machine, term):
    """A dict of True for the masks of all lots of the term that fit the machine."""
    found = []
    places = 0
    for step, left, right in numbered_parts(term):
        masks = {}
        if left is None:
            for bit, state in enumerate(both_states(machine, step)):
                masks.setdefault(state, []).append(bit << places)
            places += 1
        else:
            table = machine.rows[step]
            for p, ones in found[left].items():
                for q, twos in found[right].items():
                    masks.setdefault(table[p][q], []).extend([one | two for one in ones for two in twos])
        found.append(masks)
    return {mask: True for state in machine.accepted for mask in found[-1].get(state, [])}
