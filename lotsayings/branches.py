"""The places of trees: children and branches.

The places of a term stand as its leaves do, so each child has a greater number than its parent.
"""

from lotsayings.walks import leaves_of, postfix


def children_of(term):
    """For each place of a tree the list of its children, in the order in which the term hangs them."""
    children = []
    roots = []
    for step in postfix(term):
        if isinstance(step, tuple):
            roots.append(len(children))
            children.append([])
        else:
            child = roots.pop()
            children[roots[-1]].append(child)
    return children


def from_below(children):
    """The places, each one behind all places that are below it."""
    return list(range(len(children)))[::-1]


def branch_kinds(children, letters):
    """For each place the kind of its branch: alike exactly for equal branches, with a letter for each place."""
    kinds = {}
    found = [0] * len(children)
    for place in from_below(children):
        key = (letters[place], tuple(sorted([found[child] for child in children[place]])))
        found[place] = kinds.setdefault(key, len(kinds))
    return found


def bits_in(term):
    """The bits of the places of a term."""
    return [leaf[1] for leaf in leaves_of(term)]
