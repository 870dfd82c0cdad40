"""Records: looking at modules, and making changed ones."""

_DIVISIONS = ("udiv", "sdiv", "urem", "srem")

_TRAPPING = ("udiv", "sdiv", "urem", "srem", "load", "store", "call")

_BUILTINS = {
    "get": ((), "i32"),
    "put": (("i32",), "void"),
    "exit": (("i32",), "void"),
    "malloc": (("i64",), "ptr"),
    "free": (("ptr",), "void"),
}


def is_division(op):
    """Tell whether the op is one of the four divisions."""
    return op in _DIVISIONS


def result_kind(instruction):
    """Return the kind of the result by the table, "void" if there is none."""
    op = instruction[1]
    if op == "icmp":
        return "i1"
    if op in ("store", "kill"):
        return "void"
    if op in ("alloca", "gep"):
        return "ptr"
    return instruction[2]


def may_trap(op):
    """Tell by the table whether an instruction of this op may trap."""
    return op in _TRAPPING


def builtin(callee):
    """Return (kinds of the arguments, kind) of a built-in callee, or None."""
    return _BUILTINS.get(callee)


def edges(end):
    """Return the list of the edges of an end, by slots."""
    if end[0] == "br":
        return [end[1]]
    if end[0] == "condbr":
        return [end[2], end[3]]
    if end[0] == "switch":
        return [case[1] for case in end[2]] + [end[3]]
    return []


def with_edges(end, row):
    """Return the end with the edges of the list in its slots."""
    if end[0] == "br":
        return ("br", row[0])
    if end[0] == "condbr":
        return ("condbr", end[1], row[0], row[1])
    if end[0] == "switch":
        cases = tuple([(case[0], edge) for case, edge in zip(end[2], row)])
        return ("switch", end[1], cases, row[-1])
    return end


def with_edge(end, slot, edge):
    """Return the end with this edge in that slot."""
    row = edges(end)
    row[slot] = edge
    return with_edges(end, row)


def end_operands(end):
    """Return the list of the operands of an end, in the written order."""
    operands = []
    if end[0] in ("condbr", "switch") or end[0] == "ret" and end[1] is not None:
        operands.append(end[1])
    for _, args in edges(end):
        operands.extend(args)
    return operands


def map_instruction(instruction, change):
    """Return the instruction with each operand changed."""
    name, op, kind, operands, data, place = instruction
    return (name, op, kind, tuple([change(operand) for operand in operands]), data, place)


def map_end(end, change):
    """Return the end with each operand changed."""
    if end[0] == "ret" and end[1] is not None:
        return ("ret", change(end[1]))
    if end[0] == "condbr":
        end = ("condbr", change(end[1]), end[2], end[3])
    elif end[0] == "switch":
        end = ("switch", change(end[1]), end[2], end[3])
    row = []
    for label, args in edges(end):
        row.append((label, tuple([change(operand) for operand in args])))
    return with_edges(end, row)


def map_labels(end, change):
    """Return the end with the label of each edge changed."""
    return with_edges(end, [(change(label), args) for label, args in edges(end)])


def block_definitions(block):
    """Return the list of the pairs (name, kind) that a block defines, in order."""
    _, params, body, _ = block
    found = list(params)
    for instruction in body:
        if instruction[0] != -1:
            found.append((instruction[0], result_kind(instruction)))
    return found


def definitions(function):
    """Return the list of the pairs (name, kind) that a function defines, in order."""
    found = []
    for block in function[3]:
        found.extend(block_definitions(block))
    return found


def find_block(function, label):
    """Return the first block with this label, or None."""
    for block in function[3]:
        if block[0] == label:
            return block
    return None


def find_function(module, name):
    """Return the first function with this name, or None."""
    for function in module[1]:
        if function[0] == name:
            return function
    return None


def _put(rows, record):
    """Return the rows with the record for the first one of its first item, or None."""
    for k, row in enumerate(rows):
        if row[0] == record[0]:
            return rows[:k] + (record,) + rows[k + 1:]
    return None


def put_block(function, block):
    """Return the function with this block for the first one of its label."""
    name, kind, internal, blocks = function
    changed = _put(blocks, block)
    if changed is None:
        return function
    return (name, kind, internal, changed)


def put_function(module, function):
    """Return the module with this function for the first one of its name."""
    changed = _put(module[1], function)
    if changed is None:
        return module
    return (module[0], changed)


def new_name(function):
    """Return one more than the greatest name that the function defines, or 0."""
    greatest = -1
    for _, params, body, _ in function[3]:
        # A name of -1 stands where nothing is defined.
        greatest = max([greatest] + [name for name, _ in params] + [made[0] for made in body])
    return greatest + 1


def new_label(function):
    """Return one more than the greatest label of a block of the function, or 0."""
    return max([block[0] for block in function[3]], default=-1) + 1


def _numbering(row):
    """Return a dict from each item of the list to its number, the first one counting."""
    numbers = {}
    for item in row:
        if item not in numbers:
            numbers[item] = len(numbers)
    return numbers


def canonical(function):
    """Return the function with names and labels numbered in the order of definition."""
    name, kind, internal, blocks = function
    names = _numbering([defined for defined, _ in definitions(function)])
    labels = _numbering([block[0] for block in blocks])

    def operand_as(operand):
        if operand[0] == "name":
            return ("name", names.get(operand[1], operand[1]))
        return operand

    def label_as(old):
        return labels.get(old, old)

    changed = []
    for label, params, body, end in blocks:
        rows = []
        for row in body:
            rows.append((names.get(row[0], row[0]),) + map_instruction(row, operand_as)[1:])
        changed.append((
            label_as(label),
            tuple([(names[param], its) for param, its in params]),
            tuple(rows),
            map_labels(map_end(end, operand_as), label_as),
        ))
    return (name, kind, internal, tuple(changed))


def canonical_module(module):
    """Return the module with each of its functions made canonical."""
    return (module[0], tuple([canonical(function) for function in module[1]]))
