"""Sites: what the pointers of a function may lead to, while more and more of it is found to be live."""

from burnish.holding import escaping_operands
from burnish.records import result_kind
from burnish.values import OUTSIDE, is_maker


class Sites:
    """The sites of pointers, passed on from pointer to pointer, and the own names that escape."""

    def __init__(self):
        self.found = {}
        # From each name to the pointers that have its sites, too.
        self.takers = {}
        # The names whose sites escape.
        self.shown = {}
        self.escaped = {}

    def sites_of(self, operand):
        """Return the list of the sites of an operand so far."""
        if operand[0] == "global":
            return [operand]
        return list(self.found.get(operand[1], ())) if operand[0] == "name" else []

    def put(self, name, site):
        """Add a site to a pointer and to those that take it from there."""
        waiting = [(name, site)]
        while waiting:
            taker, taken = waiting.pop()
            known = self.found.setdefault(taker, {})
            if taken in known:
                continue
            known[taken] = True
            if taker in self.shown and taken[0] == "at":
                self.escaped[taken[1]] = True
            waiting.extend([(other, taken) for other in self.takers.get(taker, ())])

    def pass_on(self, operand, name):
        """Let a pointer have the sites of an operand, now and later."""
        if operand[0] == "name":
            self.takers.setdefault(operand[1], []).append(name)
        for site in self.sites_of(operand):
            self.put(name, site)

    def show(self, operand):
        """Let the own names among the sites of an operand escape, now and later."""
        if operand[0] == "name":
            self.shown[operand[1]] = True
        for site in self.sites_of(operand):
            if site[0] == "at":
                self.escaped[site[1]] = True

    def make(self, instruction):
        """Give the result of an instruction its sites."""
        name, op, _, operands, _, _ = instruction
        if is_maker(instruction):
            self.put(name, ("at", name))
        elif op == "gep":
            self.pass_on(operands[0], name)
        elif op == "select":
            self.pass_on(operands[1], name)
            self.pass_on(operands[2], name)
        else:
            self.put(name, OUTSIDE)

    def enter(self, block):
        """Look at the pointers of a block that is found to be live."""
        for param, kind in block[1]:
            if kind == "ptr":
                self.found.setdefault(param, {})
        for instruction in block[2]:
            if result_kind(instruction) == "ptr":
                self.found.setdefault(instruction[0], {})
                self.make(instruction)
        for operand in escaping_operands(block):
            self.show(operand)
