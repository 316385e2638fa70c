"""Verdicts on all webs of a bench: what machines answer at all terms, and least terms that show it."""

from lotsayings.compiler import machine_of
from lotsayings.founds import Fewest, reached
from lotsayings.leasts import least
from lotsayings.machines import check_alike
from lotsayings.sayings import check_saying, free_names
from lotsayings.steps import pairs
from lotsayings.terms import tracks_of, web_of


def agree(machine, other):
    """Whether both answer all terms alike."""
    check_alike(machine, other)
    return least(machine) == least(other)


def parting_term(machine, other):
    """A term of the fewest places that they answer unlike, None if there is none."""
    return fitting_term(pairs(machine, other, "xor"))


def always(machine):
    """Whether the machine answers all terms True."""
    return all([state in machine.accepted for state in reached(machine)])


def never(machine):
    """Whether the machine answers all terms False."""
    return not any([state in machine.accepted for state in reached(machine)])


def fitting_term(machine):
    """A term of the fewest places that is answered True, None if there is none."""
    return fewest_term(machine, machine.accepted)


def counter_term(machine):
    """A term of the fewest places that is answered False, None if there is none."""
    return fewest_term(machine, [state for state in range(machine.states) if state not in machine.accepted])


def fewest_term(machine, states):
    """A term of the fewest places that has one of the states, None if there is none."""
    fewest = Fewest(machine)
    known = [(fewest.sizes[state], state) for state in states if fewest.sizes[state] is not None]
    if not known:
        return None
    return fewest.found[min(known)[1]]


def gives(machine, other):
    """Whether other answers True to each term to which machine does."""
    return never(pairs(machine, ~other, "and"))


def giving_term(machine, other):
    """A term of the fewest places to which machine answers True and other False, None if there is none."""
    return fitting_term(pairs(machine, ~other, "and"))


def says_same(saying, other, bench):
    """Whether the sayings mean the same on all coloured webs of the bench."""
    one, two = two_machines(saying, other, bench)
    return one == two


def parting_lots(saying, other, bench):
    """None if the sayings mean the same, else a coloured term, its web and a dict of the lots that part them."""
    one, two = two_machines(saying, other, bench)
    term = parting_term(one, two)
    if term is None:
        return None
    lots = {name: lot for name, lot in zip(all_free_names(saying, other), tracks_of(term))}
    return term, web_of(bench, term), lots


def two_machines(saying, other, bench):
    """The machines of two sayings over the free names of both, ascending."""
    check_saying(saying)
    check_saying(other)
    names = all_free_names(saying, other)
    return machine_of(saying, bench, names=names), machine_of(other, bench, names=names)


def all_free_names(saying, other):
    """The free names of both sayings, ascending."""
    return tuple(sorted(set(free_names(saying) + free_names(other))))
