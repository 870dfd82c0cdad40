"""Value tables: what a table says of the operands of a function.

A value table is (dead, escaped, facts): the edges that are never taken, the
own names that escape, and the ranges and sites of names.
"""

from burnish.lattice import full, single
from burnish.records import edges
from burnish.scopes import kinds_of, operand_kind

OUTSIDE = ("outside",)


def is_maker(instruction):
    """Tell whether an instruction makes objects: an alloca or a call of malloc."""
    return instruction[1] == "alloca" or instruction[1] == "call" and instruction[4] == ("malloc",)


def own_names(function):
    """Return a dict with the own names of a function."""
    found = {}
    for _, _, body, _ in function[3]:
        for instruction in body:
            if is_maker(instruction):
                found[instruction[0]] = True
    return found


class Knowledge:
    """What a value table says of a function, ready to be asked often."""

    def __init__(self, function, table):
        dead, escaped, facts = table
        self.kinds = kinds_of(function)
        self.dead = {edge: True for edge in dead}
        self.escaped = {name: True for name in escaped}
        self.facts = {name: fact for name, fact in facts}
        self.results = {}
        for _, _, body, _ in function[3]:
            for instruction in body:
                if instruction[0] != -1:
                    self.results[instruction[0]] = instruction

    def kind_of(self, operand):
        """Return the kind of an operand."""
        return operand_kind(self.kinds, operand)

    def range_of(self, operand):
        """Return the range of an operand, None for a pointer."""
        kind = self.kind_of(operand)
        if kind == "ptr":
            return None
        if operand[0] == "int":
            return single(kind, operand[2])
        return self.facts.get(operand[1], full(kind))

    def sites_of(self, operand):
        """Return the sites of an operand, none for an integer."""
        if operand[0] == "global":
            return (operand,)
        if operand[0] != "name" or self.kind_of(operand) != "ptr":
            return ()
        return self.facts.get(operand[1], (OUTSIDE,))

    def is_exposed(self, site):
        """Tell whether a site is ("outside",) or covered by it."""
        return site == OUTSIDE or site[0] == "global" or site[1] in self.escaped

    def may_share(self, p, q):
        """Tell whether two pointers may lead to the same object, as their sites say."""
        first = {site: True for site in self.sites_of(p)}
        second = {site: True for site in self.sites_of(q)}
        if any([site in first for site in second]):
            return True
        if OUTSIDE in first and any([self.is_exposed(site) for site in second]):
            return True
        return OUTSIDE in second and any([self.is_exposed(site) for site in first])

    def bases(self, operand):
        """Return pairs (operand, sum of offsets) of what geps without indices lead to."""
        found = [(operand, 0)]
        offset = 0
        while len(found) < 9 and operand[0] == "name" and operand[1] in self.results:
            _, op, _, operands, data, _ = self.results[operand[1]]
            if op != "gep" or len(operands) != 1:
                break
            operand = operands[0]
            offset += data[0]
            found.append((operand, offset))
        return found

    def apart(self, p, n, q, m):
        """Tell whether n bytes at p and m bytes at q cannot overlap."""
        if not self.may_share(p, q):
            return True
        second = self.bases(q)
        for base, a in self.bases(p):
            for other, b in second:
                if base == other and (a + n <= b or b + m <= a):
                    return True
        return False


def range_of(function, table, operand):
    """Return the range of an operand, None for a pointer."""
    return Knowledge(function, table).range_of(operand)


def sites_of(function, table, operand):
    """Return the sites of an operand, none for an integer."""
    return Knowledge(function, table).sites_of(operand)


def apart(function, table, p, n, q, m):
    """Tell whether n bytes at p and m bytes at q cannot overlap."""
    return Knowledge(function, table).apart(p, n, q, m)


def live_labels(function, dead):
    """Return the list of the live labels, in the order of the blocks."""
    never = {edge: True for edge in dead}
    ends = {block[0]: block[3] for block in function[3]}
    entry = function[3][0][0]
    found = {entry: True}
    waiting = [entry]
    while waiting:
        label = waiting.pop()
        for slot, (target, _) in enumerate(edges(ends[label])):
            if (label, slot) not in never and target not in found:
                found[target] = True
                waiting.append(target)
    return [block[0] for block in function[3] if block[0] in found]
