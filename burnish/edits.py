"""Edits: what the steps of the kernel look at, and the changes that they are made of."""

from burnish.flow import immediate, tree_spans
from burnish.graph import definition_places
from burnish.records import (
    edges, end_operands, find_block, find_function, map_end, map_instruction,
    put_block, put_function,
)
from burnish.scopes import block_numbers, block_targets
from burnish.tables import rises

_PURE = (
    "add", "sub", "mul", "and", "or", "xor", "shl", "lshr", "ashr", "icmp", "select", "trunc", "zext", "sext", "gep",
)

# Names, labels and places are below this number.
_LIMIT = 10 ** 9


class Scope:
    """Which names can be used where, in a function as it is."""

    def __init__(self, function):
        self.places = definition_places(function)
        self.numbers = block_numbers(function)
        self.lows, self.highs = tree_spans(immediate(block_targets(function)))

    def reaches(self, label):
        """Tell whether a path from the entry reaches a label."""
        return label in self.numbers and self.lows[self.numbers[label]] >= 0

    def strictly(self, a, b):
        """Tell whether label a strictly dominates label b."""
        if a == b or a not in self.numbers or b not in self.numbers:
            return False
        if not self.reaches(b):
            return True
        low = self.lows[self.numbers[a]]
        return 0 <= low <= self.lows[self.numbers[b]] <= self.highs[self.numbers[a]]

    def available(self, operand, label, k):
        """Tell whether an operand is available at the place (label, k)."""
        if operand[0] != "name":
            return True
        if operand[1] not in self.places:
            return False
        maker, made_at = self.places[operand[1]]
        if maker == label and self.reaches(label):
            return made_at < k
        return maker == label or self.strictly(maker, label)

    def outer(self, operand, label):
        """Tell whether an operand is no name, or defined in a block that strictly dominates the label."""
        if operand[0] != "name":
            return True
        return operand[1] in self.places and self.strictly(self.places[operand[1]][0], label)


def incoming(function, label):
    """Return the ascending list of the edges (label, slot) into a block."""
    found = []
    for block in function[3]:
        for slot, edge in enumerate(edges(block[3])):
            if edge[0] == label:
                found.append((block[0], slot))
    return sorted(found)


def edge_at(function, label, slot):
    """Return the edge in a slot of the block with this label, or None."""
    block = find_block(function, label)
    if block is None:
        return None
    row = edges(block[3])
    return row[slot] if 0 <= slot < len(row) else None


def edges_into(function, label, places):
    """Tell whether places are at least one edge (label, slot) into the block, ascending."""
    if not places or not rises(places):
        return False
    found = {edge: True for edge in incoming(function, label)}
    return all([edge in found for edge in places])


def block_names(block):
    """Return the list of the names that a block defines, in order."""
    return [name for name, _ in block[1]] + [made[0] for made in block[2] if made[0] != -1]


def defined_names(function):
    """Return the list of the names that a function defines, in order."""
    return [name for block in function[3] for name in block_names(block)]


def block_uses(block, names):
    """Return the list of (label, position, index) of the uses of names of a dict in a block."""
    label, _, body, end = block
    found = []
    for position, instruction in enumerate(body):
        for index, operand in enumerate(instruction[3]):
            if operand[0] == "name" and operand[1] in names:
                found.append((label, position, index))
    for index, operand in enumerate(end_operands(end)):
        if operand[0] == "name" and operand[1] in names:
            found.append((label, len(body), index))
    return found


def _uses_any(block, names):
    """Tell whether a block uses one of the names of a dict."""
    for instruction in block[2]:
        for operand in instruction[3]:
            if operand[0] == "name" and operand[1] in names:
                return True
    return any([operand[0] == "name" and operand[1] in names for operand in end_operands(block[3])])


def uses(function, name):
    """Return the list of (label, position, index) of the uses of a name."""
    found = []
    for block in function[3]:
        found.extend(block_uses(block, {name: True}))
    return found


def used_in(block):
    """Return a dict with the names that a block uses."""
    operands = end_operands(block[3])
    for instruction in block[2]:
        operands.extend(instruction[3])
    return {operand[1]: True for operand in operands if operand[0] == "name"}


def used_names(function):
    """Return a dict with the names that a function uses."""
    return {name: True for block in function[3] for name in used_in(block)}


def is_used(function, name):
    """Tell whether a function uses a name."""
    return uses(function, name) != []


def _are_new(taken, row):
    """Tell whether the numbers of a row may be given: none is taken, given twice or out of bounds."""
    seen = {number: True for number in taken}
    for number in row:
        if number in seen or number < 0 or number >= _LIMIT:
            return False
        seen[number] = True
    return True


def are_new_names(function, names):
    """Tell whether names are new in a function, all different and in the bounds."""
    return _are_new(defined_names(function), names)


def are_new_labels(function, labels):
    """Tell whether labels are new in a function, all different and in the bounds."""
    return _are_new([block[0] for block in function[3]], labels)


def with_blocks(function, blocks):
    """Return the function with these blocks."""
    name, kind, internal, _ = function
    return (name, kind, internal, tuple(blocks))


def renaming(changes):
    """Return a function that gives the operand of a dict for a name in it, else the operand itself."""
    def changed(operand):
        if operand[0] == "name":
            return changes.get(operand[1], operand)
        return operand
    return changed


def change_block(block, changes):
    """Return the block with the operands of a dict in the place of the names in it."""
    if not _uses_any(block, changes):
        return block
    change = renaming(changes)
    label, params, body, end = block
    return (label, params, tuple([map_instruction(instruction, change) for instruction in body]), map_end(end, change))


def change_names(function, changes):
    """Return the function with the operands of a dict in the place of the names in it."""
    if not changes:
        return function
    return with_blocks(function, [change_block(block, changes) for block in function[3]])


def replace_uses(function, name, operand):
    """Return the function with each use of a name replaced by an operand."""
    return change_names(function, {name: operand})


def is_pure(instruction):
    """Tell whether an instruction has no effect but its result."""
    return instruction[1] in _PURE


def is_closed(function, label):
    """Tell whether each name that a block defines is used only in its own body and end."""
    return not is_used_outside(function, find_block(function, label))


def is_used_outside(function, block):
    """Tell whether another block uses a name that this block defines."""
    own = {name: True for name in block_names(block)}
    return any([other[0] != block[0] and block_uses(other, own) != [] for other in function[3]])


def open_labels(function):
    """Return a dict with the labels of the blocks that are not closed."""
    makers = {name: block[0] for block in function[3] for name in block_names(block)}
    found = {}
    for block in function[3]:
        for name in used_in(block):
            if makers[name] != block[0]:
                found[makers[name]] = True
    return found


def block_in(module, name, label):
    """Return a function of the module and its block with this label, None for what does not exist."""
    function = find_function(module, name)
    if function is None:
        return None, None
    return function, find_block(function, label)


def instruction_at(block, k):
    """Return instruction k of a block, or None; the block may be None, too."""
    if block is None or k < 0 or k >= len(block[2]):
        return None
    return block[2][k]


def is_known(module, operand):
    """Tell whether an operand is no global that the module does not have."""
    return operand[0] != "global" or any([record[0] == operand[1] for record in module[0]])


def with_body(block, body):
    """Return the block with this body, a list or tuple of instructions."""
    return (block[0], block[1], tuple(body), block[3])


def put_instructions(module, function, block, k, rows):
    """Return the module with these instructions in the place of instruction k of a block."""
    body = block[2][:k] + tuple(rows) + block[2][k + 1:]
    return put_function(module, put_block(function, with_body(block, body)))


def replace_result(module, function, block, k, operand):
    """Return the module without instruction k of a block, its result replaced by an operand."""
    left = put_block(function, with_body(block, block[2][:k] + block[2][k + 1:]))
    return put_function(module, change_names(left, {block[2][k][0]: operand}))
