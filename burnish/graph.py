"""Graphs: the blocks of a function and the edges between them."""

from burnish.flow import walk
from burnish.records import block_definitions, edges, end_operands

# Live names are found for so many names at a time, as the bits of one number.
_GROUP = 1024


def graph_of(function):
    """Return the graph of a function."""
    rows = []
    for block in function[3]:
        rows.append((block[0], tuple([label for label, _ in edges(block[3])])))
    return tuple(rows)


def node_targets(graph):
    """Return for each label, by its number, the list of the numbers of its targets."""
    numbers = {label: number for number, (label, _) in enumerate(graph)}
    return [[numbers[target] for target in targets] for _, targets in graph]


def backwards(graph):
    """Return a dict from each label to the ascending list of its sources."""
    found = {label: [] for label, _ in graph}
    for label, targets in sorted(graph):
        for target in targets:
            found[target].append(label)
    return found


def reachable(graph):
    """Return the ascending list of the reachable labels."""
    return sorted(reverse_postorder(graph))


def reverse_postorder(graph):
    """Return the reachable labels in the reverse of the order in which a walk lists them."""
    left = walk(node_targets(graph))[1]
    return [graph[number][0] for number in reversed(left)]


def critical_edges(graph):
    """Return the ascending list of the critical edges (label, slot)."""
    counts = {label: 0 for label, _ in graph}
    for _, targets in graph:
        for target in targets:
            counts[target] += 1
    found = []
    for label, targets in sorted(graph):
        if len(targets) > 1:
            found.extend([(label, slot) for slot, target in enumerate(targets) if counts[target] > 1])
    return found


def definition_places(function):
    """Return a dict from each name to the position of its definition."""
    places = {}
    for label, params, body, _ in function[3]:
        for name, _ in params:
            places[name] = (label, -1)
        for i, instruction in enumerate(body):
            if instruction[0] != -1:
                places[instruction[0]] = (label, i)
    return places


def _used_names(block):
    """Return a dict with the names that are operands in a block."""
    _, _, body, end = block
    used = {}
    for instruction in body:
        for operand in instruction[3]:
            if operand[0] == "name":
                used[operand[1]] = True
    for operand in end_operands(end):
        if operand[0] == "name":
            used[operand[1]] = True
    return used


class Liveness:
    """The names that blocks need from other blocks, and how they get there."""

    def __init__(self, function):
        self.labels = [block[0] for block in function[3]]
        self.graph = graph_of(function)
        self.sources = backwards(self.graph)
        self.defined = {}
        self.needed = {}
        found = {}
        for block in function[3]:
            own = {name: True for name, _ in block_definitions(block)}
            needs = [name for name in _used_names(block) if name not in own]
            self.defined[block[0]] = own
            self.needed[block[0]] = needs
            for name in needs:
                found[name] = True
        self.names = sorted(found)

    def masks(self, bits, rows):
        """Return a dict from each label to the bits of the names in its row."""
        found = {}
        for label in self.labels:
            mask = 0
            for name in rows[label]:
                mask |= bits.get(name, 0)
            found[label] = mask
        return found

    def spread(self, names):
        """Return a dict from each label to the bits of those names that are live at its start."""
        bits = {name: 1 << k for k, name in enumerate(names)}
        live = self.masks(bits, self.needed)
        defined = self.masks(bits, self.defined)
        waiting = [label for label in self.labels if live[label] != 0]
        while waiting:
            label = waiting.pop()
            for source in self.sources[label]:
                grown = live[source] | live[label] & ~defined[source]
                if grown != live[source]:
                    live[source] = grown
                    waiting.append(source)
        return live


def live_names(function):
    """Return a dict from each label to the ascending list of the names live at its start."""
    liveness = Liveness(function)
    found = {label: [] for label in liveness.labels}
    for first in range(0, len(liveness.names), _GROUP):
        names = liveness.names[first:first + _GROUP]
        live = liveness.spread(names)
        for label in liveness.labels:
            # The lowest bit stands last in the digits, and belongs to the first name.
            digits = f"{live[label]:b}"
            found[label].extend([name for name, digit in zip(names, digits[::-1]) if digit == "1"])
    return found
