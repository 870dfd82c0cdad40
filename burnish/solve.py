"""Value tables that are solved: the least one of a function."""

from heapq import heappop, heappush

from burnish.graph import graph_of, reverse_postorder
from burnish.holding import edges_taken, has_transfer, range_along, result_range
from burnish.lattice import full, half_of, normal, top_of, union
from burnish.records import edges, end_operands, result_kind
from burnish.sites import Sites
from burnish.values import OUTSIDE, Knowledge

_INTEGERS = ("i1", "i8", "i16", "i32", "i64")


def _constants(function):
    """Return a dict from each integer kind to a dict with the constants of it."""
    found = {kind: {} for kind in _INTEGERS}
    for _, _, body, end in function[3]:
        operands = end_operands(end)
        for instruction in body:
            operands.extend(instruction[3])
        for operand in operands:
            if operand[0] == "int":
                found[operand[1]][operand[2]] = True
    return found


def _thresholds(function):
    """Return a dict from each integer kind to the ascending list of its thresholds."""
    found = {}
    for kind, constants in _constants(function).items():
        top = top_of(kind)
        row = {0: True, half_of(kind) - 1: True, half_of(kind): True, top: True}
        for c in constants:
            for number in (c - 1, c, c + 1):
                if 0 <= number <= top:
                    row[number] = True
        found[kind] = sorted(row)
    return found


def _place_in(row, number):
    """Return how many numbers of an ascending list are below this one."""
    low, high = 0, len(row)
    while low < high:
        middle = (low + high) // 2
        if row[middle] < number:
            low = middle + 1
        else:
            high = middle
    return low


def _widened(kind, row, bounds):
    """Return a range that is not single with its bounds moved to thresholds."""
    lo, hi, zeros, ones = bounds
    at = _place_in(row, lo)
    if row[at] != lo:
        at -= 1
    return normal(kind, (row[at], row[_place_in(row, hi)], zeros, ones))


def _compared_names(knowledge, end):
    """Return the list of the names that the icmp of a condbr compares."""
    if end[0] != "condbr" or end[1][0] != "name":
        return []
    instruction = knowledge.results.get(end[1][1])
    if instruction is None or instruction[1] != "icmp":
        return []
    return [operand[1] for operand in instruction[3] if operand[0] == "name"]


class Solver:
    """The search for the least table: every edge is dead and nothing known until shown otherwise.

    Each instruction with an integer result and each end of a reachable block
    has a number, in an order in which a definition comes ahead of its uses.
    """

    def __init__(self, function):
        self.function = function
        self.knowledge = Knowledge(function, ((), (), ()))
        self.thresholds = _thresholds(function)
        self.blocks = {block[0]: block for block in function[3]}
        self.rows = []
        self.starts = {}
        self.ends = {}
        self.users = {}
        for label in reverse_postorder(graph_of(function)):
            self.starts[label] = len(self.rows)
            self.number_block(self.blocks[label])
        self.sites = Sites()
        self.unions = {}
        self.alive = {}
        self.trapping = {}
        self.waiting = []
        self.is_waiting = [False] * len(self.rows)

    def number_block(self, block):
        """Number the instructions and the end of a block, and note what names they use."""
        label, _, body, end = block
        for instruction in body:
            if result_kind(instruction) in _INTEGERS:
                self.note_users([operand[1] for operand in instruction[3] if operand[0] == "name"])
                self.rows.append((label, instruction))
        names = [operand[1] for operand in end_operands(end) if operand[0] == "name"]
        self.note_users(names + _compared_names(self.knowledge, end))
        self.ends[label] = len(self.rows)
        self.rows.append((label, None))

    def note_users(self, names):
        """Note that the row that is numbered next depends on these names."""
        for name in names:
            row = self.users.setdefault(name, [])
            if row[-1:] != [len(self.rows)]:
                row.append(len(self.rows))

    def push(self, number):
        """Let a row be looked at."""
        if not self.is_waiting[number]:
            self.is_waiting[number] = True
            heappush(self.waiting, number)

    def push_users(self, name):
        """Let the rows be looked at that depend on a name, if their blocks are live."""
        for number in self.users.get(name, []):
            if self.rows[number][0] in self.trapping:
                self.push(number)

    def enter(self, label):
        """Make a label live."""
        if label in self.trapping:
            return
        self.trapping[label] = {}
        self.sites.enter(self.blocks[label])
        for number in range(self.starts[label], self.ends[label] + 1):
            self.push(number)

    def solve(self):
        """Apply the rules until nothing changes."""
        entry = self.function[3][0]
        self.enter(entry[0])
        for name, kind in entry[1]:
            if kind == "ptr":
                self.sites.put(name, OUTSIDE)
            else:
                self.knowledge.facts[name] = full(kind)
        while self.waiting:
            number = heappop(self.waiting)
            self.is_waiting[number] = False
            label, instruction = self.rows[number]
            if instruction is None:
                self.look_at_end(self.blocks[label])
            else:
                self.look_at(number, label, instruction)

    def set_fact(self, name, fact):
        """Give a name its fact."""
        if self.knowledge.facts.get(name) != fact:
            self.knowledge.facts[name] = fact
            self.push_users(name)

    def is_known(self, operand):
        """Tell whether an operand has a fact, where it needs one."""
        return operand[0] != "name" or operand[1] in self.knowledge.facts or self.knowledge.kinds[operand[1]] == "ptr"

    def look_at(self, number, label, instruction):
        """Apply the rules to an instruction of a live block with an integer result."""
        bounds = None
        if all([self.is_known(operand) for operand in instruction[3]]):
            bounds = result_range(self.knowledge, instruction)
        if bounds is not None:
            self.set_fact(instruction[0], bounds)
        if bounds is None and has_transfer(instruction):
            self.trapping[label][number] = True
        elif number in self.trapping[label]:
            del self.trapping[label][number]
            self.push(self.ends[label])

    def look_at_end(self, block):
        """Apply the rules to the end of a live block."""
        if self.trapping[block[0]]:
            return
        for slot, edge, ranges in edges_taken(self.knowledge, block[3]):
            if (block[0], slot) not in self.alive:
                self.alive[(block[0], slot)] = True
                self.open_edge(edge)
            self.pass_on(edge, ranges)

    def open_edge(self, edge):
        """Let a label be entered along an edge, and its pointers have the sites of the arguments."""
        self.enter(edge[0])
        for (name, kind), operand in zip(self.blocks[edge[0]][1], edge[1]):
            if kind == "ptr":
                self.sites.pass_on(operand, name)

    def pass_on(self, edge, ranges):
        """Add the ranges of the arguments of an edge to those of the params."""
        for (name, kind), operand in zip(self.blocks[edge[0]][1], edge[1]):
            if kind == "ptr":
                continue
            bounds = range_along(self.knowledge, ranges, operand)
            if name in self.unions:
                bounds = union(self.unions[name], bounds)
            if self.unions.get(name) != bounds:
                self.unions[name] = bounds
                if bounds[0] != bounds[1]:
                    bounds = _widened(kind, self.thresholds[kind], bounds)
                self.set_fact(name, bounds)

    def listed_facts(self):
        """Return the list of the facts that say something."""
        found = []
        for name, bounds in self.knowledge.facts.items():
            if bounds != full(self.knowledge.kinds[name]):
                found.append((name, bounds))
        for name, sites in self.sites.found.items():
            if list(sites) != [OUTSIDE]:
                found.append((name, tuple(sorted(sites))))
        return sorted(found)

    def table(self):
        """Return the table."""
        dead = []
        for block in self.function[3]:
            for slot, _ in enumerate(edges(block[3])):
                if (block[0], slot) not in self.alive:
                    dead.append((block[0], slot))
        return (tuple(sorted(dead)), tuple(sorted(self.sites.escaped)), tuple(self.listed_facts()))


def solve_values(module, function):
    """Return the least value table of a function."""
    solver = Solver(function)
    solver.solve()
    return solver.table()
