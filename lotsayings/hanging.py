"""Web machines: those that answer equal coloured webs alike."""

from lotsayings.benches import Bench
from lotsayings.errors import NotOnTrees
from lotsayings.founds import first_terms
from lotsayings.leasts import apart, least
from lotsayings.quotients import columns_of
from lotsayings.terms import put

EXCHANGE = "exchange"
TURN = "turn"
SWAP = "swap"
BRACKET = "bracket"


def is_web_machine(machine):
    """Whether the machine answers equal coloured webs alike."""
    return joins_alike(machine) is None


def joins_alike(machine):
    """None for a web machine, else the least tuple of states of the least machine for which a rule fails."""
    rules = rules_of(machine.bench)
    broken = broken_rule(least(machine), rules)
    return None if broken is None else broken[2]


def two_terms(machine):
    """Two terms with equal coloured webs that the machine answers unlike, None for a web machine."""
    rules = rules_of(machine.bench)
    whole = least(machine)
    broken = broken_rule(whole, rules)
    if broken is None:
        return None
    rule, j, states = broken
    terms = first_terms(whole)
    one, two = joined_both_ways(rule, j, [terms[state] for state in states])
    if rule == TURN:
        return one, two
    context = apart(whole, whole.state(one), whole.state(two))
    return put(context, one), put(context, two)


def rules_of(bench):
    """The rules for the bench in order, each with the number of its join."""
    if bench == Bench.trees():
        return ((EXCHANGE, 0),)
    if bench == Bench.boughs():
        return ((EXCHANGE, 0), (TURN, 0))
    if bench == Bench.cotrees():
        return ((SWAP, 0), (BRACKET, 0), (SWAP, 1), (BRACKET, 1))
    raise NotOnTrees()


def broken_rule(whole, rules):
    """The first rule that fails, its join, and the least tuple of states for which it does; None if all hold."""
    for rule, j in rules:
        table = whole.rows[j]
        if rule == EXCHANGE:
            states = unlike_exchange(table)
        elif rule == TURN:
            accepted = [state in whole.accepted for state in range(whole.states)]
            states = unlike_pair([tuple([accepted[x] for x in row]) for row in table])
        elif rule == SWAP:
            states = unlike_pair(table)
        else:
            states = unlike_brackets(table)
        if states is not None:
            return rule, j, states
    return None


def joined_both_ways(rule, j, terms):
    """The two terms of which a rule says that they are alike."""
    p, q = terms[:2]
    if rule == EXCHANGE:
        return (j, (j, p, q), terms[2]), (j, (j, p, terms[2]), q)
    if rule == BRACKET:
        return (j, (j, p, q), terms[2]), (j, p, (j, q, terms[2]))
    return (j, p, q), (j, q, p)


def first_unlike(one, two):
    """The first index at which two rows differ."""
    return [x == y for x, y in zip(one, two)].index(False)


def unlike_pair(rows):
    """The least (p, q) for which rows[p][q] is not rows[q][p], None if there is none; the rows are tuples."""
    for p, pair in enumerate(zip(rows, columns_of(rows))):
        row, column = pair
        if row != column:
            return p, first_unlike(row, column)
    return None


def unlike_exchange(table):
    """The least (p, q, r) for which (p.q).r is not (p.r).q, None if there is none."""
    for p, row in enumerate(table):
        pair = unlike_pair([table[x] for x in row])
        if pair is not None:
            return p, pair[0], pair[1]
    return None


def unlike_brackets(table):
    """The least (p, q, r) for which (p j q) j r is not p j (q j r), None if there is none."""
    for p, row in enumerate(table):
        for q, inner in enumerate(table):
            outer = tuple([row[x] for x in inner])
            if outer != table[row[q]]:
                return p, q, first_unlike(outer, table[row[q]])
    return None
