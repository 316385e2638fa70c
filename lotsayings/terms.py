"""Terms and contexts, and the coloured webs that terms build."""

from lotsayings.cuts import check_number, is_between
from lotsayings.errors import BadTerm
from lotsayings.walks import leaves_of, postfix, rebuilt, with_leaves
from lotsayings.webs import Web, lots_of_row

MOST_TIMES = 200
MOST_LISTED = 6


def is_leaf(bench, part, many):
    """Whether part is a leaf of the bench with so many bits."""
    if not isinstance(part, tuple) or len(part) != 2:
        return False
    label, bits = part
    if not is_between(label, 0, bench.labels - 1) or label not in bench.starts:
        return False
    if not isinstance(bits, tuple) or len(bits) != many:
        return False
    return all([is_between(bit, 0, 1) for bit in bits])


def is_joined(bench, part):
    """Whether part is a triple that begins with the number of a join; its parts are not judged."""
    return isinstance(part, tuple) and len(part) == 3 and is_between(part[0], 0, len(bench) - 1)


def check_term(bench, term, many, *, hole=False):
    """None if term is a term of the bench with many tracks (with hole=True: a context), else BadTerm."""
    holes = 0
    todo = [((), term)]
    while todo:
        path, part = todo.pop()
        if hole and part is None:
            holes += 1
        elif is_joined(bench, part):
            todo.append((path + (1,), part[2]))
            todo.append((path + (0,), part[1]))
        elif not is_leaf(bench, part, many):
            raise BadTerm(path)
    if hole and holes != 1:
        raise BadTerm(())


def size_of(term):
    """The number of leaves."""
    return len(leaves_of(term))


def many_of(term):
    """The number of tracks."""
    for leaf in leaves_of(term):
        return len(leaf[1])
    return 0


def is_narrow(term):
    """Whether the right part of each join in the term is a leaf."""
    part = term
    while part is not None and len(part) == 3:
        if part[2] is None or len(part[2]) == 3:
            return False
        part = part[1]
    return True


def web_of(bench, term):
    """The web that the term builds."""
    return built(bench, term)[0]


def labels_of(bench, term):
    """The labels of the places of the web that the term builds."""
    return built(bench, term)[1]


def built(bench, term):
    """The web and the labels that the term builds."""
    labels = []
    arrows = []
    sizes = []
    for step in postfix(term):
        if isinstance(step, tuple):
            labels.append(step[0])
            sizes.append(1)
        else:
            fore, back, left, right = bench.joins[step]
            middle = len(labels) - sizes.pop()
            start = middle - sizes.pop()
            sizes.append(len(labels) - start)
            arrows.extend(arrows_between(labels, (start, middle), fore, back))
            labels[start:middle] = [left[label] for label in labels[start:middle]]
            labels[middle:] = [right[label] for label in labels[middle:]]
    return Web(len(labels), arrows), tuple(labels)


def arrows_between(labels, starts, fore, back):
    """The arrows of a join between the places from the first start on and those from the second one on."""
    start, middle = starts
    arrows = []
    for x in range(start, middle):
        for y in range(middle, len(labels)):
            pair = (labels[x], labels[y])
            if pair in fore:
                arrows.append((x, y))
            if pair in back:
                arrows.append((y, x))
    return arrows


def tracks_of(term):
    """The lots of the tracks of the term."""
    rows = [leaf[1] for leaf in leaves_of(term)]
    return tuple([tuple([x for x, bits in enumerate(rows) if bits[k]]) for k in range(many_of(term))])


def colour(term, tracks):
    """The term with new bits, one for each lot of tracks."""
    leaves = leaves_of(term)
    lots = lots_of_row(tracks, len(leaves))
    rows = [[0] * len(lots) for _ in leaves]
    for k, lot in enumerate(lots):
        for place in lot:
            rows[place][k] = 1
    return with_leaves(term, [(leaf[0], tuple(row)) for leaf, row in zip(leaves, rows)])


def bare(term):
    """The term without tracks."""
    return colour(term, ())


def put(context, term):
    """The context with the term, or the context, in its hole."""
    return rebuilt([term if step is None else step for step in postfix(context)])


def leaf_at(term, place):
    """The leaf at a place."""
    leaves = leaves_of(term)
    return leaves[check_number(place, "place", 0, len(leaves) - 1)]


def changed(term, place, bits):
    """The term with these bits at that place."""
    leaves = leaves_of(term)
    check_number(place, "place", 0, len(leaves) - 1)
    leaves[place] = (leaves[place][0], bits)
    return with_leaves(term, leaves)


def hung(t, u, *, times=1):
    """The term t with u hung so often by join 0."""
    check_number(times, "times", 0, MOST_TIMES)
    term = t
    for _ in range(times):
        term = (0, term, u)
    return term


def all_terms(bench, size):
    """Yields all terms of that size without tracks, in order."""
    check_number(size, "size", 1, MOST_LISTED)
    yield from terms_of(bench, size)


def terms_of(bench, size):
    """Yields all terms of that size without tracks: leaves by label; others by join, sizes and parts."""
    if size == 1:
        for label in bench.starts:
            yield (label, ())
    for j in range(len(bench)):
        for less in range(1, size):
            more = size - less
            for left in terms_of(bench, less):
                for right in terms_of(bench, more):
                    yield (j, left, right)
