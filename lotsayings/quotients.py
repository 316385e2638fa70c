"""Putting together the states that no context tells apart.

Nothing that is passed is changed here: the operators of machines rest on these functions.
"""


def numbered(values):
    """For each value the number of the first one that is equal to it, unlike values counted from 0."""
    numbers = {}
    for value in values:
        if value not in numbers:
            numbers[value] = len(numbers)
    return [numbers[value] for value in values]


def kept_alone(kinds):
    """For each state whether no other one is of its kind."""
    counts = [0] * len(kinds)
    for kind in kinds:
        counts[kind] = counts[kind] + 1
    return [counts[kind] == 1 for kind in kinds]


def columns_of(rows):
    """The columns of rows of one length."""
    return tuple(zip(*rows))


def sides_of(tables):
    """The tables of all joins, each one also with its rows and columns exchanged."""
    return list(tables) + [columns_of(table) for table in tables]


def finer_kinds(sides, kinds):
    """Kinds that part those states of a kind that some join with a state brings to unlike kinds."""
    rows = []
    for state, alone in enumerate(kept_alone(kinds)):
        row = [kinds[state]]
        if not alone:
            row = row + [kinds[x] for side in sides for x in side[state]]
        rows.append(tuple(row))
    return numbered(rows)


def refined(tables, values):
    """For each state its kind: states of one kind have one value and are told apart by no context.

    Kinds are numbered in the order in which they come first.
    """
    sides = sides_of(tables)
    kinds = numbered(values)
    finer = finer_kinds(sides, kinds)
    while finer != kinds:
        kinds = finer
        finer = finer_kinds(sides, kinds)
    return kinds


def first_of_kinds(kinds):
    """The first state of each kind."""
    return [kinds.index(kind) for kind in range(max(kinds) + 1)]


def put_together(tables, kinds):
    """The tables of the kinds of states."""
    firsts = first_of_kinds(kinds)
    return tuple([tuple([tuple([kinds[table[p][q]] for q in firsts]) for p in firsts]) for table in tables])
