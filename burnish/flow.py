"""Flow: walks and dominators over numbered nodes.

The nodes are 0, 1, 2, .. and node 0 is the entry; `targets` is a list that
holds, for each node, the list of the nodes that its edges lead to.
"""


def walk(targets):
    """Walk in depth from node 0, looking at the targets of a node in order.

    Return the nodes in the order in which they are entered, the nodes in the
    order in which they are left, and for each node the one that it was
    entered from (-1 for node 0 and for a node that is not entered).
    """
    entered = [0]
    left = []
    parents = [-1] * len(targets)
    seen = [False] * len(targets)
    seen[0] = True
    trail = [(0, 0)]
    while trail:
        node, slot = trail.pop()
        row = targets[node]
        while slot < len(row) and seen[row[slot]]:
            slot += 1
        if slot == len(row):
            left.append(node)
            continue
        target = row[slot]
        seen[target] = True
        entered.append(target)
        parents[target] = node
        trail.append((node, slot + 1))
        trail.append((target, 0))
    return entered, left, parents


def reached_nodes(targets):
    """Return a list that tells for each node whether a path from node 0 leads to it."""
    found = [False] * len(targets)
    for node in walk(targets)[0]:
        found[node] = True
    return found


class Forest:
    """The part of the tree of a walk that the search for dominators has linked.

    Nodes are named by their place in the order of the walk. This is the
    method of Lengauer and Tarjan: it is fast for every graph.
    """

    def __init__(self, count):
        self.semi = list(range(count))
        self.above = [-1] * count
        self.best = list(range(count))

    def shorten(self, place):
        """Let each place on the linked path point near its root, and keep the best place."""
        path = []
        while self.above[self.above[place]] >= 0:
            path.append(place)
            place = self.above[place]
        while path:
            place = path.pop()
            upper = self.above[place]
            if self.semi[self.best[upper]] < self.semi[self.best[place]]:
                self.best[place] = self.best[upper]
            self.above[place] = self.above[upper]

    def lowest(self, place):
        """Return the place with the least semidominator on the linked path to this one."""
        if self.above[place] < 0:
            return place
        self.shorten(place)
        return self.best[place]


def _dominating_places(parents, sources):
    """Return for each place of a walk the place of its immediate dominator (0 for place 0)."""
    count = len(parents)
    forest = Forest(count)
    semi = forest.semi
    found = [0] * count
    waiting = [[] for _ in parents]
    for place in range(count - 1, 0, -1):
        for source in sources[place]:
            semi[place] = min(semi[place], semi[forest.lowest(source)])
        waiting[semi[place]].append(place)
        parent = parents[place]
        forest.above[place] = parent
        for low in waiting[parent]:
            best = forest.lowest(low)
            found[low] = best if semi[best] < semi[low] else parent
        waiting[parent] = []
    for place in range(1, count):
        if found[place] != semi[place]:
            found[place] = found[found[place]]
    return found


def immediate(targets):
    """Return for each node its immediate dominator, -1 for node 0 and what is not reached."""
    entered, _, parents = walk(targets)
    places = [-1] * len(targets)
    for place, node in enumerate(entered):
        places[node] = place
    sources = [[] for _ in entered]
    for place, node in enumerate(entered):
        for target in targets[node]:
            sources[places[target]].append(place)
    found = [-1] * len(targets)
    places_above = _dominating_places([places[parents[node]] for node in entered], sources)
    for place, node in enumerate(entered):
        if place > 0:
            found[node] = entered[places_above[place]]
    return found


def tree_spans(uppers):
    """Number the nodes of the tree of dominators of node 0.

    `uppers` is what `immediate` returns. Return two lists: the number of each
    node (-1 if it is not in the tree) and the greatest number below it. Node
    a dominates node b if the number of b lies between those two of a.
    """
    lowers = [[] for _ in uppers]
    for node, upper in enumerate(uppers):
        if upper >= 0:
            lowers[upper].append(node)
    entered, left, _ = walk(lowers)
    numbers = [-1] * len(uppers)
    for number, node in enumerate(entered):
        numbers[node] = number
    greatest = list(numbers)
    for node in left:
        for lower in lowers[node]:
            greatest[node] = max(greatest[node], greatest[lower])
    return numbers, greatest
