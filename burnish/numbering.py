"""Numbering: one name for all that have the same value."""

from burnish.drafting import Draft, cut_to
from burnish.edits import Scope, used_names
from burnish.equations import solve_equations
from burnish.records import is_division


class Order:
    """Where the names of a function stand; params and results are counted together in each block."""

    def __init__(self, function):
        self.scope = Scope(function)
        self.spots = {}
        for label, params, body, _ in function[3]:
            row = [name for name, _ in params] + [made[0] for made in body]
            for k, name in enumerate(row):
                self.spots[name] = (label, k)

    def comes_before(self, y, x):
        """Tell whether y comes before x."""
        label, k = self.spots[x]
        other, j = self.spots[y]
        return j < k if label == other else self.scope.strictly(other, label)

    def downwards(self, name):
        """Return a key by which what comes before a name is sorted ahead of it, if a path reaches them."""
        label, k = self.spots[name]
        return (self.scope.lows[self.scope.numbers[label]], k)

    def reaches(self, name):
        """Tell whether a path reaches the block of a name."""
        return self.scope.reaches(self.spots[name][0])


def _reached_leaders(order, row):
    """Return pairs (x, leader) of names that paths reach, and the list of those without a leader."""
    found = []
    tops = []
    # What one name dominates stands together, so that only the last top can come before a name.
    for name in sorted(row, key=lambda known: order.downwards(known)):
        if tops and order.comes_before(tops[-1], name):
            found.append((name, tops[-1]))
        else:
            tops.append(name)
    return found, tops


def _class_leaders(order, row):
    """Return the pairs (x, leader) of a class."""
    found, tops = _reached_leaders(order, [name for name in row if order.reaches(name)])
    lost = [name for name in row if not order.reaches(name)]
    if len(tops) == 1:
        found.extend([(name, tops[0]) for name in lost])
    elif not tops and len(set([order.spots[name][0] for name in lost])) == 1:
        # Names of several blocks that no path reaches come before each other.
        rising = sorted(lost, key=lambda known: order.spots[known])
        found.extend([(name, rising[0]) for name in rising[1:]])
    return found


def leaders(function, table):
    """Return the ascending list of the pairs (x, leader) of the names that have a use."""
    order = Order(function)
    used = used_names(function)
    found = []
    for row in table:
        found.extend([pair for pair in _class_leaders(order, row) if pair[0] in used])
    return sorted(found)


class Divisions:
    """The divisions of a function as it is, found by what they do."""

    def __init__(self, function):
        self.scope = Scope(function)
        self.bodies = {block[0]: block[2] for block in function[3]}
        self.groups = {}
        for label, body in self.bodies.items():
            for k, made in enumerate(body):
                if is_division(made[1]):
                    self.groups.setdefault(made[1:5], []).append((label, k))

    def equal_to(self, label, k):
        """Return the first place of another division that is equal to that at a place and available there, or None."""
        for other, j in self.groups.get(self.bodies[label][k][1:5], ()):
            result = ("name", self.bodies[other][j][0])
            if (other, j) != (label, k) and self.scope.available(result, label, k):
                return (other, j)
        return None


def _merge_divisions(draft):
    """Take the results of divisions for those of equal ones."""
    divisions = Divisions(draft.subject())
    for label in [block[0] for block in draft.subject()[3]]:
        k = 0
        while k < len(divisions.bodies[label]):
            place = divisions.equal_to(label, k)
            if place is not None and draft.emit(("same", draft.name, label, k) + place):
                divisions = Divisions(draft.subject())
            else:
                k += 1


def numbering(module, name, *, amount=0):
    """Return the certificate that lets names be replaced by equal ones."""
    draft = Draft(module, name)
    table = solve_equations(draft.subject())
    pairs = tuple(leaders(draft.subject(), table))
    if pairs:
        draft.emit(("equal", name, table, pairs))
    _merge_divisions(draft)
    return cut_to(draft.emitted, amount)
