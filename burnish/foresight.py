"""Foresight: whether a rule that asks for ranges may match, found out without solving a value table."""

from burnish.holding import has_transfer, result_range
from burnish.lattice import full, single
from burnish.rules import first_ranged
from burnish.scopes import operand_kind


class Foresight:
    """What a solved value table must say of names that come from no params of blocks.

    In a label that is live such a name has the range that its instruction
    gives; in another one it has the full range.
    """

    def __init__(self, book):
        self.book = book
        self.results = {}
        # From each name to its range in a live label, None where a table must be asked.
        self.found = {}
        self.supposed = {}

    def kind_of(self, operand):
        """Return the kind of an operand."""
        return operand_kind(self.book.kinds, operand)

    def range_of(self, operand):
        """Return the range of an operand, None for a pointer."""
        if operand[0] == "int":
            return single(operand[1], operand[2])
        if operand[0] != "name" or self.kind_of(operand) == "ptr":
            return None
        return self.supposed.get(operand[1], self.found[operand[1]])

    def integer_names(self, operands):
        """Return the list of the names of integers among operands."""
        return [operand[1] for operand in operands if operand[0] == "name" and self.kind_of(operand) != "ptr"]

    def learn(self, name):
        """Find the range of a name, and those of the names that it comes from."""
        waiting = [name]
        opened = {}
        while waiting:
            at = waiting[-1]
            maker = self.book.maker_of(("name", at))
            operands = () if maker is None else maker[3]
            needed = [other for other in self.integer_names(operands) if other not in self.found]
            if at in self.found:
                waiting.pop()
            elif self.book.is_full(("name", at)) or maker is not None and not has_transfer(maker):
                self.found[at] = full(self.book.kinds[at])
            elif maker is None or needed and at in opened:
                self.found[at] = None
            elif needed:
                opened[at] = True
                waiting.extend(needed)
            else:
                known = [self.found[other] for other in self.integer_names(operands)]
                self.found[at] = None if None in known else result_range(self, maker)

    def suppositions(self, names):
        """Return the list of dicts of the names that have the full range, for each choice of labels that are live."""
        rows = [{}]
        for name in names:
            more = []
            for row in rows:
                other = dict(row)
                other[name] = full(self.book.kinds[name])
                more.append(other)
            rows = rows + more
        return rows

    def may_match(self, instruction):
        """Tell whether a rule that asks for ranges may match an instruction."""
        _, op, _, operands, _, _ = instruction
        if op == "zext":
            maker = self.book.maker_of(operands[0])
            return maker is not None and maker[1] == "trunc"
        # The rules on these look at the first operand alone.
        names = self.integer_names(operands[:1] if op in ("select", "ashr") else operands)
        for name in names:
            self.learn(name)
            if self.found[name] is None:
                return True
        told = False
        for supposed in self.suppositions(names):
            self.supposed = supposed
            told = told or first_ranged(self, instruction, 0) is not None
        self.supposed = {}
        return told
