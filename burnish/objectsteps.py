"""Steps that change allocas and globals."""

from burnish.edits import are_new_names, block_in, instruction_at, replace_result, with_blocks, with_body
from burnish.effects import constant_bytes
from burnish.records import edges, end_operands, find_function, map_instruction, put_function
from burnish.words import from_bytes, size, width, wrap


def users_of(function):
    """Return a dict from each operand to the list of (instruction, index) of its uses; no instruction is an end."""
    found = {}
    for _, _, body, end in function[3]:
        for instruction in body:
            for index, operand in enumerate(instruction[3]):
                found.setdefault(operand, []).append((instruction, index))
        for index, operand in enumerate(end_operands(end)):
            found.setdefault(operand, []).append((None, index))
    return found


def is_access(instruction, index, ops):
    """Tell whether a use is as the pointer of an instruction of one of the ops."""
    return instruction is not None and instruction[1] in ops and index == (1 if instruction[1] == "store" else 0)


def _pointers_from(users, first, ops):
    """Return a dict of an operand and all geps of it, of these again, and so on.

    Return None if one of them is used in another way than as the base of a gep
    or as the pointer of an instruction of one of the ops.
    """
    found = {first: True}
    waiting = [first]
    while waiting:
        pointer = waiting.pop()
        for instruction, index in users.get(pointer, ()):
            if is_access(instruction, index, ("gep",)):
                # A gep has one base, so that it is found once.
                found[("name", instruction[0])] = True
                waiting.append(("name", instruction[0]))
            elif not is_access(instruction, index, ops):
                return None
    return found


class Parts:
    """The parts of an alloca, each with its beginning, end and name."""

    def __init__(self, sizes, names):
        self.rows = []
        begin = 0
        for length, name in zip(sizes, names):
            self.rows.append((begin, begin + length, name))
            begin += length

    def part_at(self, offset):
        """Return the part that a byte lies in; the nearest one for an offset outside of all."""
        found = self.rows[0]
        for row in self.rows:
            if row[0] <= offset:
                found = row
        return found

    def holds(self, offset, kind):
        """Tell whether an access lies inside one part."""
        begin, end, _ = self.part_at(offset)
        return begin <= offset and offset + size(kind) <= end

    def moved(self, instruction):
        """Return a gep of the alloca as one of its part."""
        name, op, kind, _, (offset,), place = instruction
        begin, _, part = self.part_at(offset)
        return (name, op, kind, (("name", part),), (offset - begin,), place)


def _is_split(users, parts, pointer, offset, told):
    """Tell whether all uses of a pointer at an offset of an alloca are as they must be to split it.

    Geps of it may be uses if told.
    """
    for instruction, index in users.get(pointer, ()):
        if told and is_access(instruction, index, ("gep",)) and len(instruction[3]) == 1:
            if not _is_split(users, parts, ("name", instruction[0]), instruction[4][0], False):
                return False
        elif not is_access(instruction, index, ("load", "store")) or not parts.holds(offset, instruction[2]):
            return False
    return True


def split_alloca(module, step):
    """Make several allocas of one."""
    _, name, label, k, sizes, names = step
    function, block = block_in(module, name, label)
    instruction = instruction_at(block, k)
    if instruction is None or instruction[1] != "alloca" or len(sizes) < 2 or len(names) != len(sizes):
        return None
    if min(sizes) < 1 or sum(sizes) != instruction[4][0] or not are_new_names(function, names):
        return None
    whole = ("name", instruction[0])
    parts = Parts(sizes, names)
    if not _is_split(users_of(function), parts, whole, 0, True):
        return None

    def changed(row):
        if row[1] == "gep" and row[3][0] == whole:
            return parts.moved(row)
        return map_instruction(row, lambda operand: ("name", names[0]) if operand == whole else operand)

    made = tuple([(part, "alloca", "ptr", (), (length,), -1) for length, part in zip(sizes, names)])
    blocks = []
    for other in function[3]:
        body = tuple([changed(row) for row in other[2]])
        if other[0] == label:
            body = body[:k] + made + body[k + 1:]
        blocks.append(with_body(other, body))
    return put_function(module, with_blocks(function, blocks))


class Lives:
    """Where pointers to the objects of an alloca are used, and where a new object is made."""

    def __init__(self, function, name, pointers):
        self.name = name
        self.pointers = pointers
        self.blocks = {block[0]: block for block in function[3]}

    def is_kill(self, instruction):
        """Tell whether an instruction kills an object of the alloca."""
        return instruction[1] == "kill" and instruction[3] == (("name", self.name),)

    def first_from(self, label, k):
        """Return what comes first in a block from a position on: "use", "alloca" or "" for neither."""
        for instruction in self.blocks[label][2][k:]:
            if instruction[0] == self.name:
                return "alloca"
            if any([operand in self.pointers for operand in instruction[3]]):
                return "use"
        return ""

    def is_used_after_kill(self):
        """Tell whether a path leads from a kill to a use without passing the alloca."""
        waiting = []
        for label, block in self.blocks.items():
            for k, instruction in enumerate(block[2]):
                if self.is_kill(instruction):
                    waiting.append((label, k + 1))
        seen = {}
        while waiting:
            label, k = waiting.pop()
            first = self.first_from(label, k)
            if first == "use":
                return True
            if first == "alloca":
                continue
            for target, _ in edges(self.blocks[label][3]):
                if target not in seen:
                    seen[target] = True
                    waiting.append((target, 0))
        return False


def drop_kills(module, step):
    """Remove the kills of an alloca that nothing uses behind them."""
    _, name, target = step
    function = find_function(module, name)
    if function is None:
        return None
    made = [row for block in function[3] for row in block[2] if row[0] == target and row[1] == "alloca"]
    users = users_of(function)
    pointers = _pointers_from(users, ("name", target), ("load", "store", "kill"))
    if not made or pointers is None:
        return None
    for pointer in pointers:
        if pointer != ("name", target) and any([user[1] == "kill" for user, _ in users.get(pointer, ())]):
            return None
    lives = Lives(function, target, pointers)
    if lives.is_used_after_kill():
        return None
    blocks = []
    for block in function[3]:
        blocks.append(with_body(block, [row for row in block[2] if not lives.is_kill(row)]))
    return put_function(module, with_blocks(function, blocks))


def constant_load(module, step):
    """Replace a load from a constant global by what stands there."""
    _, name, label, k = step
    function, block = block_in(module, name, label)
    instruction = instruction_at(block, k)
    if instruction is None:
        return None
    results = {made[0]: made for other in function[3] for made in other[2]}
    found = constant_bytes(module, results, instruction)
    if found is None:
        return None
    kind = instruction[2]
    number = wrap(width(kind), from_bytes(list(found)))
    return replace_result(module, function, block, k, ("int", kind, number))


def _has_global(module, name):
    """Tell whether a module has a global of this name."""
    return any([record[0] == name for record in module[0]])


def fix_global(module, step):
    """Make a global constant that is only loaded."""
    name = step[1]
    if not _has_global(module, name):
        return None
    for function in module[1]:
        if _pointers_from(users_of(function), ("global", name), ("load",)) is None:
            return None
    return (tuple([(row[0], row[1] or row[0] == name, row[2]) for row in module[0]]), module[1])


def drop_global(module, step):
    """Remove a global that nothing uses."""
    name = step[1]
    if not _has_global(module, name) or any([("global", name) in users_of(function) for function in module[1]]):
        return None
    return (tuple([row for row in module[0] if row[0] != name]), module[1])
