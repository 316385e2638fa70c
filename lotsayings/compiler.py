"""The machines of sayings."""

from lotsayings.atoms import atom_machine, check_names
from lotsayings.errors import BadName, TooMany
from lotsayings.lots import is_name, is_place_name
from lotsayings.machines import MOST_TRACKS
from lotsayings.sayings import BINDING, SINGLE, check_saying, free_names, parts_of
from lotsayings.steps import moved_letters, pairs, rows_without, sets_without
from lotsayings.texts import written


def machine_of(saying, bench, *, names=None):
    """The least machine that answers whether the saying is true; track i is for the i-th name."""
    check_saying(saying)
    free = free_names(saying)
    told = free if names is None else tuple(names)
    check_names(told, free)
    if len(told) > MOST_TRACKS or tracks_needed(saying) > MOST_TRACKS:
        raise TooMany("tracks")
    machine = Parts(bench).of_part(saying)
    return with_tracks(machine, free, told)


def name_machine(name, bench):
    """The machine that answers True exactly for the lots of one place."""
    if not is_name(name):
        raise BadName(name)
    return atom_machine(("count", name, 1, 2, 1), bench, (name,))


def tracks_needed(saying):
    """The most tracks that a part of the saying needs."""
    needed = len(free_names(saying))
    if saying[0] in BINDING:
        needed += 1
    return max([needed] + [tracks_needed(part) for part in parts_of(saying, "saying")])


def with_tracks(machine, names, told):
    """The machine over the names, each of them among those told, with a track for each of those told."""
    if names == told:
        return machine
    return moved_letters(machine, [told.index(name) for name in names], len(told))


class Parts:
    """Makes the machines of the parts of a saying, each over just its own free names, ascending.

    Parts with one text are made once: what a second time would make or refuse is the same.
    """

    def __init__(self, bench):
        self.bench = bench
        self.known = {}

    def of_part(self, saying):
        """The machine of a part."""
        text = written(saying)
        if text not in self.known:
            self.known[text] = self.made_new(saying)
        return self.known[text]

    def made_new(self, saying):
        """The machine of a part that was not made before."""
        word = saying[0]
        if word in SINGLE:
            return atom_machine(saying, self.bench, free_names(saying))
        if word == "not":
            return ~self.of_part(saying[1])
        if word == "and" or word == "or":
            return self.of_both(saying)
        if word == "some":
            return self.with_some_lot(saying)
        if word == "all":
            return ~self.with_some_lot(("some", saying[1], ("not", saying[2])))
        bound = self.bound_last(saying)
        return rows_without(bound, bound.many - 1, saying[1], saying[2])

    def of_both(self, saying):
        """The machine of "and" or "or"."""
        free = free_names(saying)
        one = self.of_part(saying[1])
        two = self.of_part(saying[2])
        one = with_tracks(one, free_names(saying[1]), free)
        return pairs(one, with_tracks(two, free_names(saying[2]), free), saying[0])

    def with_some_lot(self, saying):
        """The machine of "some"."""
        bound = self.bound_last(saying)
        return sets_without(bound, bound.many - 1)

    def bound_last(self, saying):
        """The machine of what stands below a bound name, with the lots of this name as its last track."""
        name, inner = saying[-2:]
        tracks = free_names(saying) + (name,)
        machine = with_tracks(self.of_part(inner), free_names(inner), tracks)
        if is_place_name(name):
            single = with_tracks(name_machine(name, self.bench), (name,), tracks)
            machine = pairs(machine, single, "and")
        return machine
