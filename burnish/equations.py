"""Equation tables: classes of names that have the same value wherever both are defined."""

from burnish.records import edges
from burnish.scopes import kinds_of, operand_kind
from burnish.tables import is_equation_table

# The results of these have a value that their operands do not tell.
_LEAVES = ("alloca", "load", "call")


def incoming_arguments(function):
    """Return a dict from each label to the list of the args of the edges into it."""
    found = {block[0]: [] for block in function[3]}
    for block in function[3]:
        for target, operands in edges(block[3]):
            found[target].append(operands)
    return found


def _makings(function):
    """Return a dict from each name to a pair: what makes it, and its operands.

    Names that are made by different things are never equal; the names of the
    entry, and what memory or a callee gives, are left out.
    """
    kinds = kinds_of(function)
    brought = incoming_arguments(function)
    found = {}
    for label, params, body, _ in function[3]:
        if label != function[3][0][0]:
            for k, (name, kind) in enumerate(params):
                found[name] = (("param", label, kind), [operands[k] for operands in brought[label]])
        for name, op, kind, operands, data, _ in body:
            if name != -1 and op not in _LEAVES:
                told = tuple([operand_kind(kinds, operand) for operand in operands])
                found[name] = ((op, kind, data, told), list(operands))
    return found


def holds_equations(function, table):
    """Tell whether a plain value is an equation table of the function that holds."""
    if not is_equation_table(table):
        return False
    makings = _makings(function)
    classes = {}
    for row in table:
        for name in row:
            classes[("name", name)] = row[0]
    for row in table:
        if not all([name in makings for name in row]):
            return False
        making, operands = makings[row[0]]
        keys = [classes.get(operand, operand) for operand in operands]
        for name in row[1:]:
            other, others = makings[name]
            if making != other or keys != [classes.get(operand, operand) for operand in others]:
                return False
    return True


class Partition:
    """Classes of names, split until names of one class have operands of the same classes.

    Each operand that stands for itself alone has a class, too. After a split
    the smaller part gets a new number, so that each name is looked at seldom.
    """

    def __init__(self, makings):
        self.numbers = {}
        self.groups = []
        self.users = {}
        self.waiting = []
        first = {}
        for name, (making, operands) in makings.items():
            if making not in first:
                first[making] = self.add_class()
            self.put(("name", name), first[making])
            for position, operand in enumerate(operands):
                self.users.setdefault(operand, []).append((position, ("name", name)))
        for operand in self.users:
            if operand not in self.numbers:
                self.put(operand, self.add_class())

    def add_class(self):
        """Add a class without members that waits to be looked at; return its number."""
        self.groups.append({})
        self.waiting.append(len(self.groups) - 1)
        return len(self.groups) - 1

    def put(self, operand, number):
        """Put an operand into a class."""
        self.numbers[operand] = number
        self.groups[number][operand] = True

    def users_by_position(self, number):
        """Return a dict from each position to the names that have an operand of the class there."""
        found = {}
        for operand in self.groups[number]:
            for position, user in self.users.get(operand, ()):
                found.setdefault(position, []).append(user)
        return found

    def split_class(self, number, touched):
        """Split the touched members off a class, if they are not all of it."""
        members = self.groups[number]
        if len(touched) == len(members):
            return
        moved = touched
        if 2 * len(touched) > len(members):
            told = {operand: True for operand in touched}
            moved = [operand for operand in members if operand not in told]
        # The new class waits. If the old one waits, it waits on; else one of the two parts is enough.
        fresh = self.add_class()
        for operand in moved:
            del members[operand]
            self.put(operand, fresh)

    def split(self):
        """Split until nothing changes."""
        while self.waiting:
            number = self.waiting.pop()
            for users in self.users_by_position(number).values():
                touched = {}
                for user in users:
                    touched.setdefault(self.numbers[user], []).append(user)
                for other, row in touched.items():
                    self.split_class(other, row)


def solve_equations(function):
    """Return the coarsest equation table of a function that holds."""
    partition = Partition(_makings(function))
    partition.split()
    found = []
    for members in partition.groups:
        if len(members) > 1:
            found.append(tuple(sorted([operand[1] for operand in members])))
    return tuple(sorted(found))
