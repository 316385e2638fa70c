"""Finding states in the told order, starting from codes of any kind.

The shell of the n-th found code is the row of the codes of all joins of pairs of found codes of which n is the
greater number: first the pairs (p, n) with p below n, then the pairs (n, q) with q up to n, joins in order.
Nothing that is passed is changed here: the operators of machines rest on these functions.
"""

from lotsayings.errors import TooGreat

MOST_STATES = 100


def grown(codes, fresh):
    """The codes, and behind them those of fresh that are not among them, none twice."""
    seen = {code: True for code in codes}
    found = list(codes)
    for code in fresh:
        if code not in seen:
            seen[code] = True
            found.append(code)
    return found


def numbers_among(codes, row):
    """For each code of a row its number among the codes."""
    numbers = {code: number for number, code in enumerate(codes)}
    return [numbers[code] for code in row]


def pairs_of_shell(at):
    """The pairs of numbers of which at is the greater one, in order."""
    return [(p, at) for p in range(at)] + [(at, q) for q in range(at + 1)]


def table_of(shells, joins, j):
    """The table of the j-th join, told by the shells of numbers of all found codes."""
    many = len(shells)
    rows = []
    for p in range(many):
        low = shells[p][p * joins + j::joins]
        rows.append(tuple(low + [shells[q][p * joins + j] for q in range(p + 1, many)]))
    return tuple(rows)


def tables_of(shells, joins):
    """The tables of all joins."""
    return tuple([table_of(shells, joins, j) for j in range(joins)])


def explored(spec, most, step):
    """The found codes, the row of the states of all leaves, and the tables.

    The methods of spec tell codes: leaf_codes() those of all leaves, join_codes(codes, at) a shell;
    spec.joins is the number of joins. More than most codes (None: no bound) raise TooGreat(step).
    """
    first = spec.leaf_codes()
    codes = grown([], first)
    shells = []
    while len(shells) < len(codes):
        fresh = spec.join_codes(codes, len(shells))
        codes = grown(codes, fresh)
        if most is not None and len(codes) > most:
            raise TooGreat(step)
        shells.append(numbers_among(codes, fresh))
    return codes, numbers_among(codes, first), tables_of(shells, spec.joins)


def found_first(spec, most):
    """The codes that are found first, not more than so many."""
    codes = grown([], spec.leaf_codes())
    at = 0
    while at < len(codes) < most:
        codes = grown(codes, spec.join_codes(codes, at))
        at += 1
    return codes[:most]
