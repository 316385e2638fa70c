"""Nodes 0 .. n-1 and their goals: circles among them, and short ways from one to another one."""


def components(goals):
    """For each node the number of its component; the goals of a node outside of its component have lesser numbers.

    goals has a list of goals for each node. Two nodes have one component if ways lead from each to the other one.
    """
    numbers = [None] * len(goals)
    met = {}
    lows = [0] * len(goals)
    path = []
    many = 0
    for first in range(len(goals)):
        todo = [] if first in met else [(first, 0)]
        while todo:
            node, at = todo.pop()
            if at == 0:
                lows[node] = met[node] = len(met)
                path.append(node)
            elif numbers[goals[node][at - 1]] is None:
                lows[node] = min(lows[node], lows[goals[node][at - 1]])
            if at < len(goals[node]):
                todo.append((node, at + 1))
                if goals[node][at] not in met:
                    todo.append((goals[node][at], 0))
            elif lows[node] == met[node]:
                while numbers[node] is None:
                    numbers[path.pop()] = many
                many += 1
    return numbers


def short_way(steps, first, last):
    """The labels of a shortest way of one step at least from one node to another one, None if there is none.

    steps has the pairs (label, goal) of each node.
    """
    origins = {}
    todo = [first]
    at = 0
    while at < len(todo) and last not in origins:
        node = todo[at]
        at += 1
        for label, goal in steps[node]:
            if goal not in origins:
                origins[goal] = (label, node)
                todo.append(goal)
    if last not in origins:
        return None
    labels = []
    node = last
    while node != first or not labels:
        label, node = origins[node]
        labels.append(label)
    return tuple(labels[::-1])
