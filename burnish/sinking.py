"""Sinking: instructions moved towards their uses, and out of loops."""

from burnish.dominators import dominator_order, immediate_dominators
from burnish.drafting import cut_to
from burnish.edits import is_pure
from burnish.graph import graph_of
from burnish.loops import innermost, loops
from burnish.records import end_operands, find_function


class Tree:
    """The tree of dominators of a function, with the number of loops around each label."""

    def __init__(self, function):
        graph = graph_of(function)
        self.uppers = immediate_dominators(graph)
        self.levels = {}
        for label in dominator_order(graph, self.uppers):
            self.levels[label] = self.levels[self.uppers[label]] + 1 if label in self.uppers else 0
        depths = {loop[0]: loop[4] for loop in loops(graph)}
        self.nesting = {label: depths.get(header, 0) for label, header in innermost(graph).items()}

    def common(self, a, b):
        """Return the nearest label that dominates both."""
        while a != b:
            if self.levels[a] < self.levels[b]:
                a, b = b, a
            a = self.uppers[a]
        return a

    def best_between(self, low, high):
        """Return the label in the fewest loops from one up to another, of several the lowest."""
        best = low
        while low != high:
            low = self.uppers[low]
            if self.nesting[low] < self.nesting[best]:
                best = low
        return best


class Sinker:
    """Moves the instructions of a function, without changing it."""

    def __init__(self, function):
        self.function = function
        self.tree = Tree(function)
        # Where each pure instruction stands now.
        self.homes = {}
        # From each name to what uses it: a pure instruction by its result, and a label for the rest.
        self.makers = {}
        self.labels = {}
        # How many instructions were put to the beginning of a block.
        self.added = {}
        for label, _, body, end in function[3]:
            self.added[label] = 0
            for made in body:
                self.note(label, made)
            for operand in end_operands(end):
                self.labels.setdefault(operand, []).append(label)

    def note(self, label, made):
        """Note what an instruction uses."""
        pure = is_pure(made)
        if pure:
            self.homes[made[0]] = label
        for operand in made[3]:
            if pure:
                self.makers.setdefault(operand, []).append(made[0])
            else:
                self.labels.setdefault(operand, []).append(label)

    def target(self, name):
        """Return the label of the block to which an instruction belongs, or None."""
        operand = ("name", name)
        places = self.labels.get(operand, []) + [self.homes[user] for user in self.makers.get(operand, [])]
        if not places or not all([label in self.tree.levels for label in places]):
            return None
        found = places[0]
        for label in places[1:]:
            found = self.tree.common(found, label)
        return self.tree.best_between(found, self.homes[name])

    def moves(self):
        """Return the list of the steps."""
        found = []
        for label, _, body, _ in reversed(self.function[3]):
            for k in range(len(body) - 1, -1, -1):
                if not is_pure(body[k]):
                    continue
                name = body[k][0]
                target = self.target(name)
                if target is None or target == label:
                    continue
                # What was put to the beginning of this block stands ahead of all that was there.
                found.append(("move", self.function[0], label, k + self.added[label], target, 0))
                self.added[target] += 1
                self.homes[name] = target
        return found


def sinking(module, name, *, amount=0):
    """Return the certificate that moves instructions towards their uses."""
    return cut_to(Sinker(find_function(module, name)).moves(), amount)
