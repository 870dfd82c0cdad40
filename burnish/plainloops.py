"""Plain loops: loops that are brought into a form in which they can be changed, and loops that are rotated."""

from burnish.drafting import over_functions
from burnish.edits import block_names, block_uses, incoming, used_in
from burnish.flow import tree_spans
from burnish.graph import backwards, graph_of, reverse_postorder
from burnish.loops import innermost, loops
from burnish.records import edges, find_block, new_label
from burnish.scopes import kinds_of


class Nesting:
    """The loops of a function, and the edges around them."""

    def __init__(self, function):
        self.graph = graph_of(function)
        self.order = reverse_postorder(self.graph)
        self.met = {label: True for label in self.order}
        self.targets = {label: targets for label, targets in self.graph}
        self.sources = backwards(self.graph)
        self.found = loops(self.graph)

    def loop_of(self, header):
        """Return the loop of a header, or None."""
        rows = [loop for loop in self.found if loop[0] == header]
        return rows[0] if rows else None

    def ahead_of(self, loop):
        """Return the label of the preheader of a loop, or -1."""
        inside = {label: True for label in loop[1]}
        sources = [label for label in self.sources[loop[0]] if label in self.met and label not in inside]
        if len(sources) == 1 and self.targets[sources[0]] == (loop[0],):
            return sources[0]
        return -1

    def is_simple(self, loop):
        """Tell whether a loop is simple."""
        header, labels, latches, _, _ = loop
        if self.ahead_of(loop) == -1 or len(latches) != 1 or self.targets[latches[0]].count(header) != 1:
            return False
        return self.cycles_meet(header, labels)

    def cycles_meet(self, header, labels):
        """Tell whether every cycle of labels contains the header."""
        inside = {label: True for label in labels if label != header}
        counts = {label: 0 for label in inside}
        for label in inside:
            for target in self.targets[label]:
                if target in inside:
                    counts[target] += 1
        waiting = [label for label in inside if counts[label] == 0]
        done = 0
        while waiting:
            done += 1
            label = waiting.pop()
            for target in self.targets[label]:
                if target in inside:
                    counts[target] -= 1
                    if counts[target] == 0:
                        waiting.append(target)
        return done == len(inside)

    def ordered(self, loop):
        """Return the labels of a loop in reverse postorder, the header first."""
        inside = {label: True for label in loop[1]}
        return [label for label in self.order if label in inside]


def simple_loops(function):
    """Return the list of the simple loops, ascending by header."""
    nesting = Nesting(function)
    return [loop for loop in nesting.found if nesting.is_simple(loop)]


def gather_edges(draft, places):
    """Lead edges to one block through a new block; tell whether the step was not refused."""
    function = draft.subject()
    block = find_block(function, places[0][0])
    target = edges(block[3])[places[0][1]][0]
    names = draft.new_names(len(find_block(function, target)[1]))
    return draft.emit(("gather", draft.name, new_label(function), names, tuple(places)))


class Gathering:
    """Gathers edges of a function, so often at most.

    New blocks make no loops and change no loop but by belonging to it, so
    that the loops are looked for only once.
    """

    def __init__(self, draft, amount):
        self.draft = draft
        self.left = amount
        graph = graph_of(draft.subject())
        self.targets = {label: list(targets) for label, targets in graph}
        self.sources = {label: [] for label, _ in graph}
        for label, targets in sorted(graph):
            for slot, target in enumerate(targets):
                self.sources[target].append((label, slot))
        self.rows = loops(graph)
        self.parents = {loop[0]: loop[3] for loop in self.rows}
        self.holders = innermost(graph)
        # Each loop has a number, and the loops in it have the next ones.
        nodes = {loop[0]: k + 1 for k, loop in enumerate(self.rows)}
        nodes[-1] = 0
        lows, highs = tree_spans([-1] + [nodes[loop[3]] for loop in self.rows])
        self.lows = {header: lows[node] for header, node in nodes.items()}
        self.highs = {header: highs[node] for header, node in nodes.items()}

    def is_inside(self, label, header):
        """Tell whether a label is in the loop of a header."""
        return self.lows[header] <= self.lows[self.holders[label]] <= self.highs[header]

    def gather(self, target, places, holder):
        """Gather edges to a block in a new block that is right in a loop; none will follow a step that is refused."""
        fresh = new_label(self.draft.subject())
        if self.left == 0 or not gather_edges(self.draft, places):
            self.left = 0
            return
        self.left -= 1
        for label, slot in places:
            self.targets[label][slot] = fresh
        self.targets[fresh] = [target]
        self.sources[target] = sorted([place for place in self.sources[target] if place not in places] + [(fresh, 0)])
        self.sources[fresh] = places
        self.holders[fresh] = holder

    def split_sources(self, target, header):
        """Return the lists of the edges to a block from the loop of a header and from outside of it."""
        inner = [place for place in self.sources[target] if self.is_inside(place[0], header)]
        return inner, [place for place in self.sources[target] if place not in inner]

    def mend_header(self, header):
        """Give a header a preheader and one back edge."""
        back, outside = self.split_sources(header, header)
        if len(outside) != 1 or self.targets[outside[0][0]] != [header]:
            self.gather(header, outside, self.parents[header])
        if len(back) != 1:
            self.gather(header, back, header)

    def mend_exits(self, header):
        """Let the exits of a loop lead to blocks to which no other edges lead."""
        found = {}
        for label, targets in self.targets.items():
            if self.is_inside(label, header):
                for target in targets:
                    if not self.is_inside(target, header):
                        found[target] = True
        for target in sorted(found):
            inner, outside = self.split_sources(target, header)
            if outside:
                holder = self.parents[header]
                while holder != -1 and not self.is_inside(target, holder):
                    holder = self.parents[holder]
                self.gather(target, inner, holder)


def _make_plain(draft, amount):
    """Bring the loops of a function into plain form."""
    draft.prune()
    gathering = Gathering(draft, amount)
    for loop in gathering.rows:
        gathering.mend_header(loop[0])
    # What is gathered at the exits of a loop changes no exits of loops that came before.
    for _, header in sorted([(-loop[4], loop[0]) for loop in gathering.rows]):
        if gathering.left > 0:
            gathering.mend_exits(header)


def plain(module, name, *, amount=1000):
    """Return the certificate that gives loops preheaders, one back edge each, and exits of their own."""
    return over_functions(module, name, _make_plain, amount)


def labels_living(function, name):
    """Return the ascending list of the labels at whose start a name is live."""
    blocks = {block[0]: block for block in function[3]}
    home = [block[0] for block in function[3] if name in block_names(block)][0]
    sources = backwards(graph_of(function))
    waiting = [at for at, block in blocks.items() if at != home and block_uses(block, {name: True})]
    found = {at: True for at in waiting}
    while waiting:
        label = waiting.pop()
        for source in sources[label]:
            if source != home and source not in found:
                found[source] = True
                waiting.append(source)
    return sorted(found)


def give_params(draft, name, labels):
    """Let blocks use params of their own for a name; tell whether no step was refused."""
    kind = kinds_of(draft.subject())[name]
    pairs = []
    for label in labels:
        function = draft.subject()
        passed = (("name", name),) * len(incoming(function, label))
        pairs.append((label, len(find_block(function, label)[1])))
        if not draft.emit(("add_param", draft.name, label, draft.new_names(1)[0], kind, passed)):
            return False
    return draft.emit(("use_params", draft.name, tuple(pairs)))


def names_used_elsewhere(function):
    """Return a dict from each label to the ascending list of the names of its block that other blocks use."""
    homes = {name: block[0] for block in function[3] for name in block_names(block)}
    found = {block[0]: {} for block in function[3]}
    for block in function[3]:
        for name in used_in(block):
            if homes[name] != block[0]:
                found[homes[name]][name] = True
    return {label: sorted(names) for label, names in found.items()}


def close_loops(draft, amount):
    """Close the blocks of the first simple loops of a function."""
    draft.prune()
    nesting = Nesting(draft.subject())
    # A name that gets params changes nothing for the other names.
    used = names_used_elsewhere(draft.subject())
    for loop in [row for row in nesting.found if nesting.is_simple(row)][:amount]:
        for label in nesting.ordered(loop):
            for name in used[label]:
                mark = draft.mark()
                if not give_params(draft, name, labels_living(draft.subject(), name)):
                    draft.back_to(mark)


def close(module, name, *, amount=1000):
    """Return the certificate that lets blocks of simple loops use no names of one another."""
    return over_functions(module, name, close_loops, amount)


def copy_block(draft, label, places):
    """Lead edges to a copy of a block; return its label, or -1 if the step is refused."""
    function = draft.subject()
    names = draft.new_names(len(block_names(find_block(function, label))))
    fresh = new_label(function)
    return fresh if draft.emit(("copy", draft.name, label, fresh, names, tuple(places))) else -1


def _can_rotate(nesting, loop):
    """Tell whether a loop can be rotated."""
    header, labels, latches, _, _ = loop
    inside = [target for target in nesting.targets[header] if target in labels]
    return header not in latches and len(inside) == 1 and len(nesting.targets[header]) > 1


def _rotate_all(draft, amount):
    """Rotate the first simple loops of a function that can be."""
    close_loops(draft, 1000)
    count = 0
    for header in [row[0] for row in simple_loops(draft.subject())]:
        nesting = Nesting(draft.subject())
        loop = nesting.loop_of(header)
        if count >= amount or loop is None or not nesting.is_simple(loop) or not _can_rotate(nesting, loop):
            continue
        if copy_block(draft, header, [(nesting.ahead_of(loop), 0)]) != -1:
            count += 1


def rotate(module, name, *, amount=1000):
    """Return the certificate that copies the headers of loops ahead of them."""
    return over_functions(module, name, _rotate_all, amount)
