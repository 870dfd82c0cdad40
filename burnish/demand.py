"""Demand tables: the bits of names on which a run may depend."""

from burnish.edits import is_pure
from burnish.lattice import half_of, top_of
from burnish.records import definitions, edges
from burnish.scopes import kinds_of, operand_kind
from burnish.tables import is_demand_table
from burnish.values import live_labels
from burnish.words import width


def everything(kind):
    """Return the mask that demands all of a value of the kind."""
    return 1 if kind == "ptr" else top_of(kind)


def _up_to(mask):
    """Return all bits up to the highest one of a mask."""
    return (1 << mask.bit_length()) - 1


def _shift_demand(op, kind, mask, count):
    """Return what a shift by a constant below the width demands of its first operand."""
    if op == "shl":
        return mask >> count
    top = top_of(kind)
    wanted = mask << count & top
    if op == "ashr" and mask & top - (top >> count):
        wanted |= half_of(kind)
    return wanted


def _cast_demand(op, old, mask):
    """Return what a cast from the old kind demands of its operand."""
    wanted = mask & top_of(old)
    if op == "sext" and mask > top_of(old):
        wanted |= half_of(old)
    return wanted


def demanded_of(kinds, instruction, at, mask):
    """Return the mask that an instruction demands of the operand at this place.

    `mask` is that of its result, for a pure instruction.
    """
    _, op, kind, operands, _, _ = instruction
    every = everything(operand_kind(kinds, operands[at]))
    if not is_pure(instruction):
        return every
    if mask == 0:
        return 0
    if op in ("and", "or") and operands[1 - at][0] == "int":
        c = operands[1 - at][2]
        return mask & c if op == "and" else mask & every - c
    if op in ("and", "or", "xor") or op == "select" and at > 0:
        return mask
    if op in ("add", "sub", "mul"):
        return _up_to(mask)
    if op in ("shl", "lshr", "ashr") and at == 0 and operands[1][0] == "int" and operands[1][2] < width(kind):
        return _shift_demand(op, kind, mask, operands[1][2])
    if op in ("trunc", "zext", "sext"):
        return _cast_demand(op, operand_kind(kinds, operands[0]), mask)
    return every


class Demands:
    """What the live blocks of a function demand of its names."""

    def __init__(self, function, values):
        self.kinds = kinds_of(function)
        self.blocks = {block[0]: block for block in function[3]}
        self.dead = {edge: True for edge in values[0]}
        self.live = live_labels(function, values[0])

    def always(self, block):
        """Return pairs (name, mask) of what a block demands whatever is demanded of other names."""
        found = []
        end = block[3]
        for instruction in block[2]:
            if not is_pure(instruction):
                found.extend(self.of_instruction(instruction, 0))
        if end[0] in ("condbr", "switch", "ret") and end[1] is not None and end[1][0] == "name":
            found.append((end[1][1], everything(self.kinds[end[1][1]])))
        return found

    def of_instruction(self, instruction, mask):
        """Return pairs (name, mask) of what an instruction demands, with this mask of its result."""
        found = []
        for at, operand in enumerate(instruction[3]):
            if operand[0] == "name":
                found.append((operand[1], demanded_of(self.kinds, instruction, at, mask)))
        return found

    def passed(self, block):
        """Return pairs (name, param) of the arguments of the edges of a block that are not dead."""
        found = []
        for slot, (target, operands) in enumerate(edges(block[3])):
            if (block[0], slot) in self.dead:
                continue
            for (param, _), operand in zip(self.blocks[target][1], operands):
                if operand[0] == "name":
                    found.append((operand[1], param))
        return found


def holds_demand(function, values, table):
    """Tell whether a plain value is a demand table of the function that holds."""
    if not is_demand_table(table):
        return False
    demands = Demands(function, values)
    for name, mask in table:
        if name not in demands.kinds or mask > everything(demands.kinds[name]):
            return False
    masks = {name: everything(kind) for name, kind in demands.kinds.items()}
    for name, mask in table:
        masks[name] = mask
    for label in demands.live:
        block = demands.blocks[label]
        told = demands.always(block) + [(name, masks[param]) for name, param in demands.passed(block)]
        for instruction in block[2]:
            if is_pure(instruction):
                told.extend(demands.of_instruction(instruction, masks[instruction[0]]))
        if not all([mask & masks[name] == mask for name, mask in told]):
            return False
    return True


def solve_demand(function, values):
    """Return the least demand table of the function that holds."""
    demands = Demands(function, values)
    masks = {name: 0 for name, _ in definitions(function)}
    makers = {}
    sources = {}
    told = []
    for label in demands.live:
        block = demands.blocks[label]
        told.extend(demands.always(block))
        for instruction in block[2]:
            if is_pure(instruction):
                makers[instruction[0]] = instruction
        for name, param in demands.passed(block):
            sources.setdefault(param, []).append(name)
    while told:
        name, mask = told.pop()
        if mask & masks[name] == mask:
            continue
        masks[name] |= mask
        if name in makers:
            told.extend(demands.of_instruction(makers[name], masks[name]))
        told.extend([(source, masks[name]) for source in sources.get(name, ())])
    return tuple(sorted(masks.items()))
