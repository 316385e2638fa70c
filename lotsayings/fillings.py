"""Finding lots for the last tracks of a machine on a term."""

from lotsayings.machines import bits_number, bits_of
from lotsayings.terms import many_of
from lotsayings.walks import numbered_parts


def filled(machine, term):
    """Lots for the tracks that the term lacks with which the machine answers it True, None if there are none."""
    lacks = machine.many - many_of(term)
    nodes = numbered_parts(term)
    ways = []
    for step, left, right in nodes:
        if left is None:
            ways.append(leaf_ways(machine, step, lacks))
        else:
            table = machine.rows[step]
            ways.append({table[p][q]: (p, q) for p in ways[left] for q in ways[right]})
    for state in machine.accepted:
        if state in ways[-1]:
            rows = chosen_bits(nodes, ways, state)
            return tuple([tuple([at for at, bits in enumerate(rows) if bits[k]]) for k in range(lacks)])
    return None


def leaf_ways(machine, leaf, lacks):
    """A dict from the states of a leaf to the bits of the last tracks that lead to them."""
    row = machine.leaves[machine.bench.starts.index(leaf[0])]
    letters = [bits_of(number, lacks) for number in range(1 << lacks)]
    return {row[bits_number(leaf[1] + bits)]: bits for bits in letters}


def chosen_bits(nodes, ways, state):
    """The bits of the last tracks, for the places in their order, that lead the term to the state."""
    rows = []
    todo = [(len(nodes) - 1, state)]
    while todo:
        at, state = todo.pop()
        _, left, right = nodes[at]
        if left is None:
            rows.append(ways[at][state])
        else:
            p, q = ways[at][state]
            todo.append((right, q))
            todo.append((left, p))
    return rows
