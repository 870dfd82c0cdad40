"""Dominators: what every path to a label, or from it, contains."""

from burnish.flow import immediate
from burnish.graph import backwards, definition_places, node_targets, reverse_postorder


def immediate_dominators(graph):
    """Return a dict from each reachable label but the entry to its immediate dominator."""
    found = {}
    for number, upper in enumerate(immediate(node_targets(graph))):
        if upper >= 0:
            found[graph[number][0]] = graph[upper][0]
    return found


def dominates(tree, a, b):
    """Tell whether a dominates b, for a dict of immediate dominators."""
    while b != a and b in tree:
        b = tree[b]
    return b == a


def _children(tree):
    """Return a dict from each label to the ascending list of those right below it."""
    found = {}
    for label in sorted(tree):
        found.setdefault(tree[label], []).append(label)
    return found


def dominator_order(graph, tree):
    """Return the reachable labels, each one ahead of all that it dominates."""
    children = _children(tree)
    found = []
    waiting = [graph[0][0]]
    while waiting:
        label = waiting.pop()
        found.append(label)
        waiting.extend(children.get(label, [])[::-1])
    return found


def immediate_postdominators(graph):
    """Return a dict from each label that another one post-dominates to the nearest such."""
    labels = [label for label, _ in graph]
    numbers = {label: number for number, label in enumerate(labels)}
    # Node 0 stands behind all exits, and node n + 1 is the label of number n.
    rows = [[number + 1 for number, (_, targets) in enumerate(graph) if not targets]]
    sources = backwards(graph)
    for label in labels:
        rows.append([numbers[source] + 1 for source in sources[label]])
    found = {}
    for node, upper in enumerate(immediate(rows)):
        if upper > 0:
            found[labels[node - 1]] = labels[upper - 1]
    return found


def frontiers(graph):
    """Return a dict from each reachable label to the ascending list of its frontier."""
    tree = immediate_dominators(graph)
    found = {label: [] for label in reverse_postorder(graph)}
    sources = backwards(graph)
    for label in sorted(found):
        for source in sources[label]:
            _note_upwards(found, tree, source, label)
    return found


def _note_upwards(found, tree, lowest, label):
    """Add a label to the rows on the way up the tree, up to what is above the label itself."""
    above = tree.get(label)
    at = lowest
    # Where the label stands already, an earlier way went on from here.
    while at in found and at != above and found[at][-1:] != [label]:
        found[at].append(label)
        at = tree.get(at)


def _levels(graph, tree):
    """Return a dict from each reachable label to the number of labels above it in the tree."""
    levels = {}
    for label in dominator_order(graph, tree):
        levels[label] = levels[tree[label]] + 1 if label in tree else 0
    return levels


class Joins:
    """The search for an iterated frontier, which looks at each label once."""

    def __init__(self, graph):
        tree = immediate_dominators(graph)
        self.children = _children(tree)
        self.levels = _levels(graph, tree)
        self.targets = {label: targets for label, targets in graph}
        self.waiting = [[] for _ in graph]
        self.seen = {}
        self.found = {}

    def look_below(self, root):
        """Find the labels to which an edge leads from below the root, and not further down."""
        trail = [root]
        while trail:
            label = trail.pop()
            if label in self.seen:
                continue
            self.seen[label] = True
            for target in self.targets[label]:
                # What the label itself dominates lies deeper than the root.
                if self.levels[target] <= self.levels[root]:
                    self.note(target)
            trail.extend(self.children.get(label, []))

    def note(self, label):
        """Add a label to what is found, and let it be looked at."""
        if label not in self.found:
            self.found[label] = True
            self.waiting[self.levels[label]].append(label)


def iterated_frontier(graph, labels):
    """Return the ascending list of the iterated frontier of the labels that are reachable."""
    joins = Joins(graph)
    for label in labels:
        if label in joins.levels:
            joins.waiting[joins.levels[label]].append(label)
    # From the deepest level up, so that what was seen below need not be looked at again.
    for level in range(len(graph) - 1, -1, -1):
        row = joins.waiting[level]
        while row:
            joins.look_below(row.pop())
    return sorted(joins.found)


def deciders(graph):
    """Return a dict from each label to the ascending list of the labels that decide on it."""
    tree = immediate_postdominators(graph)
    ending = _leading_to_exit(graph)
    found = {label: [] for label, _ in graph}
    for label, targets in sorted(graph):
        for target in targets:
            if target in ending:
                _note_upwards(found, tree, target, label)
    return found


def _leading_to_exit(graph):
    """Return a dict with the labels from which a path leads to an exit."""
    sources = backwards(graph)
    waiting = [label for label, targets in graph if not targets]
    found = {label: True for label in waiting}
    while waiting:
        label = waiting.pop()
        for source in sources[label]:
            if source not in found:
                found[source] = True
                waiting.append(source)
    return found


def is_available(function, tree, name, label, i):
    """Tell whether a name is defined ahead of the position (label, i) of a reachable block."""
    places = definition_places(function)
    if name not in places:
        return False
    maker, made_at = places[name]
    if maker == label:
        return made_at < i
    return dominates(tree, maker, label)
