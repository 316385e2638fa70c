"""Lots of trees, and those that no symmetry moves."""

from lotsayings.benches import Bench
from lotsayings.branches import bits_in, branch_kinds, children_of
from lotsayings.errors import NotWeb, OtherTracks, TooMany
from lotsayings.forms import check_on_trees
from lotsayings.hanging import is_web_machine
from lotsayings.lots import lot_of_mask
from lotsayings.machines import state_by
from lotsayings.terms import check_term, colour, is_joined, size_of, tracks_of
from lotsayings.webs import lot_of

MOST_PLACES = 10


def check_counted(machine):
    """NotOnTrees, OtherTracks, NotWeb unless the machine is a web machine on trees with a last track."""
    check_on_trees(machine)
    if machine.many == 0:
        raise OtherTracks()
    if not is_web_machine(machine):
        raise NotWeb()


def check_places(term):
    """TooMany if a term has too many places to try all lots."""
    if size_of(term) > MOST_PLACES:
        raise TooMany("places")


def all_lots_of(size):
    """All lots of so many places, ascending."""
    return sorted([lot_of_mask(mask, size) for mask in range(1 << size)])


def lots_of(machine, term):
    """Yields the lots of the tree that fit, ascending."""
    check_counted(machine)
    check_term(machine.bench, term, machine.many - 1)
    check_places(term)
    tracks = tracks_of(term)
    for lot in all_lots_of(size_of(term)):
        if state_by(machine, colour(term, tracks + (lot,)), None) in machine.accepted:
            yield lot


def check_tree(term):
    """BadTerm unless it is a tree whose leaves have as many bits as the first one."""
    bench = Bench.trees()
    part = term
    while is_joined(bench, part):
        part = part[1]
    many = 0
    if isinstance(part, tuple) and len(part) == 2 and isinstance(part[1], tuple):
        many = len(part[1])
    check_term(bench, term, many)


def alike_children(term):
    """The groups of two or more children of one place with equal coloured subtrees, ascending."""
    children = children_of(term)
    kinds = branch_kinds(children, bits_in(term))
    found = []
    for row in children:
        groups = {}
        for child in row:
            groups.setdefault(kinds[child], []).append(child)
        found.extend([tuple(group) for group in list(groups.values()) if len(group) > 1])
    return sorted(found)


def is_carried_alike(term, lot):
    """Whether children of one place with equal coloured subtrees have equal ones with the lot as one more track.

    Equal subtrees with the lot are equal without it, so at each place as many unlike ones must be among both.
    """
    children = children_of(term)
    rows = bits_in(term)
    kinds = branch_kinds(children, rows)
    fuller = branch_kinds(children, [(bits, place in lot) for place, bits in enumerate(rows)])
    for row in children:
        if len(set([kinds[child] for child in row])) != len(set([fuller[child] for child in row])):
            return False
    return True


def is_unmoved(term, lot):
    """Whether each symmetry of the coloured tree turns the lot into itself."""
    check_tree(term)
    return is_carried_alike(term, lot_of(lot, size_of(term)))


def unmoved_lots(term):
    """The lots of the tree that no symmetry moves, ascending."""
    check_tree(term)
    check_places(term)
    return [lot for lot in all_lots_of(size_of(term)) if is_carried_alike(term, lot)]


def equal_children(term):
    """All groups of two or more children of one place whose subtrees are equal coloured trees, ascending."""
    check_tree(term)
    return alike_children(term)


def has_three(term):
    """Whether three children of one place have equal coloured subtrees."""
    check_tree(term)
    return any([len(group) >= 3 for group in alike_children(term)])
