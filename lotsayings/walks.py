"""Ways through terms and contexts without recursion, as these may be two hundred joins deep."""

from lotsayings.cuts import is_int


def postfix(term):
    """The leaves, the holes (None) and the numbers of joins of a term, each join behind its two parts."""
    found = []
    todo = [term]
    while todo:
        part = todo.pop()
        if part is None or len(part) == 2:
            found.append(part)
        else:
            found.append(part[0])
            todo.append(part[1])
            todo.append(part[2])
    return found[::-1]


def rebuilt(steps):
    """The term of which steps is the postfix; whole terms may stand in it as leaves do."""
    parts = []
    for step in steps:
        if is_int(step):
            right = parts.pop()
            left = parts.pop()
            parts.append((step, left, right))
        else:
            parts.append(step)
    return parts[0]


def leaves_of(term):
    """The leaves of a term or a context, from left to right."""
    return [step for step in postfix(term) if isinstance(step, tuple)]


def with_leaves(term, leaves):
    """The term with other leaves, as many as it has."""
    steps = postfix(term)
    taken = 0
    for i, step in enumerate(list(steps)):
        if isinstance(step, tuple):
            steps[i] = leaves[taken]
            taken += 1
    return rebuilt(steps)


def numbered_parts(term):
    """The postfix of a term, each step as a triple with the numbers of the steps of its two parts, or None twice."""
    nodes = []
    waiting = []
    for step in postfix(term):
        if is_int(step):
            right = waiting.pop()
            nodes.append((step, waiting.pop(), right))
        else:
            nodes.append((step, None, None))
        waiting.append(len(nodes) - 1)
    return nodes


def steps_around(context):
    """The steps from the hole of a context to its top, triples (j, side, term).

    The term stands on the right of the hole (side 0) or on its left (side 1).
    """
    steps = []
    part = context
    while part is not None:
        j, left, right = part
        if None in postfix(left):
            steps.append((j, 0, right))
            part = left
        else:
            steps.append((j, 1, left))
            part = right
    return steps[::-1]


def context_around(steps):
    """The context with these steps from its hole to its top, triples (j, side, term) as steps_around tells them."""
    context = None
    for j, side, term in steps:
        context = (j, term, context) if side else (j, context, term)
    return context
