"""The machines of sayings."""

from lotsayings.atoms import atom_machine, check_names
from lotsayings.errors import BadName, TooMany
from lotsayings.lots import is_name, is_place_name
from lotsayings.machines import MOST_TRACKS
from lotsayings.sayings import BINDING, SINGLE, check_saying, free_names, parts_of
from lotsayings.steps import moved_letters, pairs, rows_without, sets_without
from lotsayings.texts import written


def machine_of(saying, bench, *, names=None):
    """The least machine that answers whether the saying is true; track i is for the i-th name."""
    check_saying(saying)
    free = free_names(saying)
    told = free if names is None else tuple(names)
    check_names(told, free)
    if len(told) > MOST_TRACKS or tracks_needed(saying) > MOST_TRACKS:
        raise TooMany("tracks")
    machine = Parts(bench).of_part(saying)
    return with_tracks(machine, free, told)


def name_machine(name, bench):
    """The machine that answers True exactly for the lots of one place."""
    if not is_name(name):
        raise BadName(name)
    return atom_machine(("count", name, 1, 2, 1), bench, (name,))


def tracks_needed(saying):
    """The most tracks that a part of the saying needs."""
    needed = len(free_names(saying))
    if saying[0] in BINDING:
        needed += 1
    return max([needed] + [tracks_needed(part) for part in parts_of(saying, "saying")])


def with_tracks(machine, names, told):
    """The machine over the names, each of them among those told, with a track for each of those told."""
    if names == told:
        return machine
    return moved_letters(machine, [told.index(name) for name in names], len(told))


class Parts:
    """Makes the machines of the parts of a saying, each over just its own free names, ascending.

    Parts with one text are made once: what a second time would make or refuse is the same.
    """

    def __init__(self, bench):
        self.bench = bench
        self.known = {}

    def of_part(self, saying):
        """The machine of a part."""
        text = written(saying)
        if text not in self.known:
            self.known[text] = self.made_new(saying)
        return self.known[text]

    def made_new(self, saying):
        """The machine of a part that was not made before."""
        word = saying[0]
        if word in SINGLE:
            return atom_machine(saying, self.bench, free_names(saying))
        inner = [self.of_part(part) for part in parts_of(saying, "saying")]
        if word == "not":
            return ~inner[0]
        if word == "and" or word == "or":
            return of_both(saying, inner)
        last = len(free_names(saying))
        if word == "some":
            return sets_without(self.bound_last(saying, inner[0]), last)
        if word == "all":
            return ~sets_without(self.bound_last(saying, ~inner[0]), last)
        return rows_without(self.bound_last(saying, inner[0]), last, saying[1], saying[2])

    def bound_last(self, saying, inner):
        """The machine of what stands below a bound name, with the lots of this name as its last track."""
        name = saying[-2]
        tracks = free_names(saying) + (name,)
        machine = with_tracks(inner, free_names(saying[-1]), tracks)
        if is_place_name(name):
            single = with_tracks(name_machine(name, self.bench), (name,), tracks)
            machine = pairs(machine, single, "and")
        return machine


def of_both(saying, inner):
    """The machine of "and" or "or", of the machines of its two parts."""
    free = free_names(saying)
    one, two = [with_tracks(machine, free_names(part), free) for machine, part in zip(inner, saying[1:])]
    return pairs(one, two, saying[0])
