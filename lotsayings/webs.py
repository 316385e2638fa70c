"""Webs, lots and renumberings."""

from lotsayings.cuts import check_number, is_between, is_int
from lotsayings.errors import BadLot, BadOrder, BadWeb, TooMany

MOST_PLACES = 200
MOST_ORDERED = 8


def are_arrows(value, size):
    """Whether value is a list or tuple of pairs of different places, none twice."""
    if not isinstance(value, (list, tuple)):
        return False
    for arrow in value:
        if not isinstance(arrow, tuple) or len(arrow) != 2:
            return False
        if not is_between(arrow[0], 0, size - 1) or not is_between(arrow[1], 0, size - 1):
            return False
        if arrow[0] == arrow[1]:
            return False
    return len(set(value)) == len(value)


class Web:
    """Places 0 .. size-1 and arrows between them."""

    def __init__(self, size, arrows):
        if not is_between(size, 1, MOST_PLACES):
            raise BadWeb("size")
        if not are_arrows(arrows, size):
            raise BadWeb("arrows")
        self.size = size
        self.arrows = tuple(sorted(arrows))
        goals = [[] for _ in range(size)]
        for x, y in self.arrows:
            goals[x].append(y)
        self._goals = tuple([tuple(row) for row in goals])

    def __eq__(self, other):
        return isinstance(other, Web) and self.size == other.size and self.arrows == other.arrows

    def __len__(self):
        return len(range(self.size))

    def __iter__(self):
        return iter(self.arrows)

    def arrow(self, x, y):
        """Whether there is an arrow from x to y."""
        check_number(x, "place", 0, self.size - 1)
        check_number(y, "place", 0, self.size - 1)
        return y in self._goals[x]

    def sent(self, x):
        """The places that x sends an arrow to, ascending."""
        check_number(x, "place", 0, self.size - 1)
        return self._goals[x]

    def renumbered(self, order):
        """The web in which place order[i] is called i."""
        calls = calls_of(order)
        if len(calls) != self.size:
            raise BadOrder()
        return Web(self.size, [(calls[x], calls[y]) for x, y in self.arrows])

    def of_lot(self, lot):
        """The web of the places of the lot, with the arrows among them."""
        places = lot_of(lot, self.size)
        if not places:
            raise BadLot()
        calls = {place: i for i, place in enumerate(places)}
        kept = [(calls[x], calls[y]) for x, y in self.arrows if x in calls and y in calls]
        return Web(len(places), kept)


def lot_of(value, size):
    """The lot as an ascending tuple; BadLot unless value is a list or tuple of different places."""
    if not isinstance(value, (list, tuple)):
        raise BadLot()
    for place in value:
        if not is_between(place, 0, size - 1):
            raise BadLot()
    lot = tuple(sorted(set(value)))
    if len(lot) != len(value):
        raise BadLot()
    return lot


def lots_of_row(tracks, size):
    """The tuple of the lots of a row of tracks; BadLot if one is none, or tracks is no list or tuple."""
    if not isinstance(tracks, (list, tuple)):
        raise BadLot()
    return tuple([lot_of(lot, size) for lot in tracks])


def calls_of(order):
    """A dict from each place to what order calls it; BadOrder if order is no renumbering."""
    if not isinstance(order, (list, tuple)) or not order:
        raise BadOrder()
    for place in order:
        if not is_int(place):
            raise BadOrder()
    if sorted(order) != list(range(len(order))):
        raise BadOrder()
    return {place: i for i, place in enumerate(order)}


def moved(lot, order):
    """The lot under the new numbers."""
    calls = calls_of(order)
    return tuple(sorted([calls[place] for place in lot_of(lot, len(calls))]))


def equal_by(web, tracks, other, other_tracks):
    """The least renumbering that turns the first coloured web into the other, None if there is none."""
    lots = lots_of_row(tracks, web.size)
    other_lots = lots_of_row(other_tracks, other.size)
    if web.size > MOST_ORDERED or other.size > MOST_ORDERED:
        raise TooMany("places")
    if web.size != other.size or len(lots) != len(other_lots):
        return None
    shape = shape_of(web, lots)
    other_shape = shape_of(other, other_lots)
    begun = ()
    for order in orders_between(shape, other_shape, begun):
        return order
    return None


def symmetries(web, tracks):
    """Yields the symmetries, ascending."""
    lots = lots_of_row(tracks, web.size)
    if web.size > MOST_ORDERED:
        raise TooMany("places")
    shape = shape_of(web, lots)
    begun = ()
    yield from orders_between(shape, shape, begun)


def shape_of(web, lots):
    """A row for each place x: at x its tracks, at y whether arrows go from x to y and back."""
    places = range(web.size)
    rows = []
    for x in places:
        row = [(web.arrow(x, y), web.arrow(y, x)) for y in places]
        row[x] = tuple([x in lot for lot in lots])
        rows.append(row)
    return rows


def orders_between(shape, other, begun):
    """Yields, ascending, all renumberings that begin so and turn one shape into the other."""
    if len(begun) == len(shape):
        yield begun
        return
    for place in range(len(shape)):
        longer = begun + (place,)
        if place not in begun and last_fits(shape, other, longer):
            yield from orders_between(shape, other, longer)


def last_fits(shape, other, begun):
    """Whether the last place of a begun renumbering has the tracks and arrows of the place that it becomes."""
    last = len(begun) - 1
    row = shape[begun[last]]
    for i, place in enumerate(begun):
        if row[place] != other[last][i]:
            return False
    return True
