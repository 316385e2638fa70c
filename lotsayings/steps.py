"""The steps that make machines from machines."""

from lotsayings.codes import RowCodes, SetCodes
from lotsayings.cuts import check_number, is_between
from lotsayings.errors import BadNumber
from lotsayings.machines import (
    MOST_TRACKS,
    Machine,
    bits_number,
    bits_of,
    check_alike,
    found_pairs,
    leaf_rows,
    least_of,
    least_told,
    paired,
)
from lotsayings.shells import MOST_STATES, explored

WORDS = ("and", "or", "xor")


def pairs(one, two, word):
    """The least machine of the pairs of states of two machines, by "and", "or" or "xor"."""
    if word not in WORDS:
        raise BadNumber("word")
    return paired(one, two, word)


def sets_without(machine, track):
    """The least machine that answers whether the machine answers True with some lot in the track."""
    check_number(track, "track", 0, machine.many - 1)
    whole = least_of(machine)
    found = explored(SetCodes(whole, track), MOST_STATES, "sets")
    values = [any([code >> state & 1 for state in whole.accepted]) for code in found[0]]
    return least_told(whole.bench, whole.many - 1, found, values)


def rows_without(machine, track, a, d):
    """The least machine that answers whether the number of lots in the track leaves the rest a by d."""
    check_number(track, "track", 0, machine.many - 1)
    check_number(d, "d", 1, 6)
    check_number(a, "a", 0, d - 1)
    whole = least_of(machine)
    found = explored(RowCodes(whole, track, d), MOST_STATES, "rows")
    values = [sum([row[state] for state in whole.accepted]) % d == a for row in found[0]]
    return least_told(whole.bench, whole.many - 1, found, values)


def are_places(places, machine, many):
    """Whether places is a list or tuple with a number of a track below many for each track."""
    if not isinstance(places, (list, tuple)) or len(places) != machine.many:
        return False
    return all([is_between(place, 0, many - 1) for place in places])


def moved_letters(machine, places, many):
    """The least machine with many tracks that reads its track places[i] where the machine reads track i."""
    check_number(many, "many", 0, MOST_TRACKS)
    if not are_places(places, machine, many):
        raise BadNumber("places")
    letters = []
    for number in range(1 << many):
        bits = bits_of(number, many)
        letters.append(bits_number([bits[place] for place in places]))
    leaves = tuple([tuple([row[letter] for letter in letters]) for row in machine.leaves])
    return least_of(Machine(machine.bench, many, leaves, machine.rows, machine.accepted))


def common(one, two):
    """The common machine, and its states that the first machine and that the second one accepts."""
    check_alike(one, two)
    one = least_of(one)
    two = least_of(two)
    codes, row, tables = found_pairs(one, two)
    first = [number for number, code in enumerate(codes) if code // two.states in one.accepted]
    second = [number for number, code in enumerate(codes) if code % two.states in two.accepted]
    machine = Machine(one.bench, one.many, leaf_rows(row, one.many), tables, ())
    return machine, tuple(first), tuple(second)
