"""Loops: back edges, and what they enclose."""

from burnish.dominators import immediate_dominators
from burnish.flow import tree_spans
from burnish.graph import backwards, reachable, reverse_postorder


class Dominance:
    """The reachable labels of a graph, ready to tell which dominates which."""

    def __init__(self, graph):
        tree = immediate_dominators(graph)
        labels = [label for label, _ in graph]
        at = {label: number for number, label in enumerate(labels)}
        uppers = [at[tree[label]] if label in tree else -1 for label in labels]
        lows, highs = tree_spans(uppers)
        self.lows = {label: lows[at[label]] for label in labels}
        self.highs = {label: highs[at[label]] for label in labels}

    def is_back_edge(self, label, target):
        """Tell whether an edge from a reachable label leads to one that dominates it."""
        return self.lows[target] <= self.lows[label] <= self.highs[target]


def _latches(graph, order):
    """Return a dict from each header to the ascending list of its latches."""
    dominance = Dominance(graph)
    targets_of = {label: targets for label, targets in graph}
    found = {}
    for label in sorted(order):
        for target in sorted(set(targets_of[label])):
            if dominance.is_back_edge(label, target):
                found.setdefault(target, []).append(label)
    return found


class Nest:
    """The loops of a graph, found from the innermost ones outwards.

    A loop is entered by its header alone, so the search for a loop around it
    passes it in one step, from its header.
    """

    def __init__(self, graph):
        self.order = reverse_postorder(graph)
        self.latches = _latches(graph, self.order)
        self.sources = backwards(graph)
        self.uppers = {label: label for label in self.order}
        self.holders = {label: -1 for label, _ in graph}
        self.parents = {}
        self.enclosed = {}
        # A header stands behind the headers of the loops around its own.
        for header in [label for label in reversed(self.order) if label in self.latches]:
            self.enclose(header)

    def outermost(self, label):
        """Return the header of the outermost loop found so far around a label, or the label."""
        path = []
        while self.uppers[label] != label:
            path.append(label)
            label = self.uppers[label]
        for passed in path:
            self.uppers[passed] = label
        return label

    def members(self, header):
        """Return the labels right in the loop of a header, and the headers of the loops there."""
        seen = {header: True}
        found = []
        waiting = [self.outermost(label) for label in self.latches[header]]
        while waiting:
            label = waiting.pop()
            if label in seen:
                continue
            seen[label] = True
            found.append(label)
            for source in self.sources[label]:
                if source in self.uppers:
                    waiting.append(self.outermost(source))
        return found

    def enclose(self, header):
        """Find the loop of a header."""
        labels = [header]
        for member in self.members(header):
            self.uppers[member] = header
            if member in self.enclosed:
                self.parents[member] = header
                labels.extend(self.enclosed[member])
            else:
                self.holders[member] = header
                labels.append(member)
        self.holders[header] = header
        self.parents[header] = -1
        self.enclosed[header] = sorted(labels)


def loops(graph):
    """Return the list of the loops of a graph, ascending by header."""
    nest = Nest(graph)
    depths = {-1: 0}
    for label in nest.order:
        if label in nest.parents:
            depths[label] = depths[nest.parents[label]] + 1
    found = []
    for header in sorted(nest.enclosed):
        labels = tuple(nest.enclosed[header])
        latches = tuple(nest.latches[header])
        found.append((header, labels, latches, nest.parents[header], depths[header]))
    return found


def innermost(graph):
    """Return a dict from each label to the header of the smallest loop around it, or -1."""
    return Nest(graph).holders


def loop_exits(graph, loop):
    """Return the ascending list of the edges (label, slot, target) that leave a loop."""
    inside = {label: True for label in loop[1]}
    found = []
    for label, targets in sorted(graph):
        if label in inside:
            found.extend([(label, k, target) for k, target in enumerate(targets) if target not in inside])
    return found


def preheader(graph, loop):
    """Return the only label that leads into a loop, if it leads nowhere else, otherwise -1."""
    header = loop[0]
    inside = {label: True for label in loop[1]}
    reached = {label: True for label in reachable(graph)}
    found = []
    for label, targets in graph:
        if label in reached and label not in inside and header in targets:
            found.append((label, targets))
    if len(found) == 1 and len(found[0][1]) == 1:
        return found[0][0]
    return -1


def is_reducible(graph):
    """Tell whether each cycle of reachable labels contains a back edge."""
    dominance = Dominance(graph)
    order = reverse_postorder(graph)
    places = {label: place for place, label in enumerate(order)}
    for label, targets in graph:
        # Where each edge that leads back in the order is a back edge, the others make no cycle.
        for target in targets:
            if label in places and places[target] <= places[label]:
                if not dominance.is_back_edge(label, target):
                    return False
    return True
