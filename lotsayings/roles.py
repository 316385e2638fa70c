"""What the labels of a bench mean for the arrows from one lot to another one.

A place plays a role for each of the two lots that it is in: its label in the first lot, from which arrows go, or
its label in the second lot, to which arrows go. Roles that no further join treats unlike are one kind.
"""

from lotsayings.quotients import first_of_kinds, numbered

SOURCE = 0
TARGET = 1


class Roles:
    """The kinds of roles on a bench, if the first lot, the second lot can have places at all.

    Kind 0 is that of the places that no arrow of these lots will ever touch; it is not counted. kept is the number
    of the other kinds. pairs has for each join the pairs of kinds, left and right, of places that get an arrow;
    lefts and rights tell for each join and kind what kind it becomes in the left, in the right part.
    """

    def __init__(self, bench, sources, targets):
        self.labels = bench.labels
        met = labels_met(bench)
        played = [(SOURCE, label) for label in met if sources] + [(TARGET, label) for label in met if targets]
        all_pairs = [role_pairs(join, played) for join in bench.joins]
        self.kinds = kinds_of_roles(bench, all_pairs)
        firsts = first_of_kinds(self.kinds)
        self.kept = len(firsts) - 1
        self.pairs = []
        for pairs in all_pairs:
            known = [(self.kind_of(left), self.kind_of(right)) for left, right in pairs]
            self.pairs.append(sorted(set(known)))
        self.lefts = [[self.kinds[moved_role(first, join[2])] for first in firsts] for join in bench.joins]
        self.rights = [[self.kinds[moved_role(first, join[3])] for first in firsts] for join in bench.joins]

    def kind_of(self, role):
        """The kind of a role."""
        return self.kinds[role_number(role, self.labels)]


def labels_met(bench):
    """The labels that places of terms can have."""
    met = list(bench.starts)
    at = 0
    while at < len(met):
        for join in bench.joins:
            for label in (join[2][met[at]], join[3][met[at]]):
                if label not in met:
                    met.append(label)
        at += 1
    return met


def role_number(role, labels):
    """The number of a role, from 1 on; 0 stands for no role at all."""
    side, label = role
    return 1 + side * labels + label


def moved_role(number, labels):
    """The number of the role that a role becomes, if labels become these."""
    if number == 0:
        return 0
    side = (number - 1) // len(labels)
    return role_number((side, labels[(number - 1) % len(labels)]), len(labels))


def role_pairs(join, played):
    """The pairs of roles, left and right, of places that get an arrow by the join."""
    fore = [((SOURCE, a), (TARGET, b)) for a, b in join[0]]
    back = [((TARGET, a), (SOURCE, b)) for a, b in join[1]]
    return [(left, right) for left, right in fore + back if left in played and right in played]


def kinds_of_roles(bench, all_pairs):
    """For each number of a role its kind: the finest that is needed."""
    roles = [None]
    for side in (SOURCE, TARGET):
        roles.extend([(side, label) for label in range(bench.labels)])
    kinds = [0] * len(roles)
    finer = finer_roles(bench, all_pairs, roles, kinds)
    while finer != kinds:
        kinds = finer
        finer = finer_roles(bench, all_pairs, roles, kinds)
    return kinds


def finer_roles(bench, all_pairs, roles, kinds):
    """Kinds that part roles of one kind with unlike arrows in some join, or that become unlike kinds."""
    rows = []
    for number, role in enumerate(roles):
        row = [kinds[number]]
        for join, pairs in zip(bench.joins, all_pairs):
            row.append(tuple([right for left, right in pairs if left == role]))
            row.append(tuple([left for left, right in pairs if right == role]))
            row.append(kinds[moved_role(number, join[2])])
            row.append(kinds[moved_role(number, join[3])])
        rows.append(tuple(row))
    return numbered(rows)
